import PyProof.Rows.All
import Wide.All
import OpenK.AllK
import Wide.FinOn
import Lean
import PyProof.EqAt
import PyProof.EqKinds
import PyProof.TupleCall
import PySem.Challenge.RW_waymark_k80_led_on_by_the_first
set_option Elab.async false
set_option linter.all false
set_option maxRecDepth 100000
namespace L2
open PySem PySem.Spec PyProof.Rows
abbrev Key := Sum Int Str
def keyIs : Key -> Value -> Bool
 | .inl k,v=>Value.isInt k v
 | .inr x,v=>Value.isStrOf x v
def keyH (w : World) : Key -> Int
 | .inl k=>hashInt k
 | .inr x=>hashStr w x
theorem aqZ : ∀ {k : Key} {v : Value},keyIs k v = true -> (∃ i t,k = Sum.inl i /\ v = Value.int i t) \/ (∃ x t,k = Sum.inr x /\ v = Value.str x t)
 | .inl i,v,h=>by
  obtain ⟨t,e⟩ := Value.isInt_shape (k := i) (v := v) h
  exact .inl ⟨i,t,rfl,e⟩
 | .inr x,v,h=>by
  obtain ⟨t,e⟩ := Value.isStrOf_shape (x := x) (v := v) h
  exact .inr ⟨x,t,rfl,e⟩
theorem nqH (i : Int) (t : Tok) : keyIs (.inl i) (.int i t) = true := by simp [keyIs,Value.isInt]
theorem nql (x : Str) (t : Tok) : keyIs (.inr x) (.str x t) = true := by simp [keyIs,Value.isStrOf]
theorem tqm (a b : Int) : decide ((Sum.inl a : Key) = Sum.inl b) = (a == b) := by
 by_cases e : a = b
 ·subst e; simp
 ·have h : ¬ (Sum.inl a : Key) = Sum.inl b := fun q=>e (Sum.inl.inj q)
  rw [decide_eq_false h]
  exact (beq_eq_false_iff_ne.mpr e).symm
theorem sqB (a b : Str) : decide ((Sum.inr a : Key) = Sum.inr b) = decide (a = b) := by
 by_cases e : a = b
 ·subst e; simp
 ·have h : ¬ (Sum.inr a : Key) = Sum.inr b := fun q=>e (Sum.inr.inj q)
  rw [decide_eq_false h,decide_eq_false e]
theorem sq8 (a : Int) (b : Str) : decide ((Sum.inl a : Key) = Sum.inr b) = false := decide_eq_false (fun q=>nomatch q)
theorem sqj (a : Str) (b : Int) : decide ((Sum.inr a : Key) = Sum.inl b) = false := decide_eq_false (fun q=>nomatch q)
def mixKind (prog : Program) (w : World) : PySem.KeyKind prog w Key where
 is := keyIs
 hash := keyH w
 inj := fun v a b ha hb=>by
  rcases aqZ ha with ⟨i,t,rfl,rfl⟩ | ⟨x,t,rfl,rfl⟩
  ·rcases aqZ hb with ⟨j,u,rfl,e⟩ | ⟨y,u,rfl,e⟩
   ·injection e with e1 _; rw [e1]
   ·exact nomatch e
  ·rcases aqZ hb with ⟨j,u,rfl,e⟩ | ⟨y,u,rfl,e⟩
   ·exact nomatch e
   ·injection e with e1 _; rw [e1]
 byValue := fun k v h=>by
  rcases aqZ h with ⟨i,t,rfl,rfl⟩ | ⟨x,t,rfl,rfl⟩ <;> rfl
 pyHash := fun hv h=>by
  rcases aqZ hv with ⟨i,t,rfl,rfl⟩ | ⟨x,t,rfl,rfl⟩
  ·exact wpAny_pyHash_int h
  ·exact wpAny_pyHash_str h
 eqBool := fun hu hv h=>by
  rcases aqZ hu with ⟨i,t,rfl,rfl⟩ | ⟨x,t,rfl,rfl⟩
  ·rcases aqZ hv with ⟨j,u,rfl,rfl⟩ | ⟨y,u,rfl,rfl⟩
   ·rw [tqm] at h; exact wpAny_eqBool_int h
   ·rw [sq8] at h; exact SeqAt.EqAt.int_str i t y u _ _ _ _ h
  ·rcases aqZ hv with ⟨j,u,rfl,rfl⟩ | ⟨y,u,rfl,rfl⟩
   ·rw [sqj] at h; exact SeqAt.EqAt.str_int x t j u _ _ _ _ h
   ·rw [sqB] at h; exact wpAny_eqBool_str h
 «strs» := fun k x t v h=>by
  rcases aqZ h with ⟨i,u,rfl,e⟩ | ⟨y,u,rfl,e⟩
  ·exact nomatch e
  ·injection e with e1 _
   subst e1
   cases v <;> rfl
theorem lqJ (prog : Program) (w : World) (i : Int) (t : Tok) : (mixKind prog w).is (.inl i) (.int i t) = true := nqH i t
theorem lqY (prog : Program) (w : World) (x : Str) (t : Tok) : (mixKind prog w).is (.inr x) (.str x t) = true := nql x t
inductive V where
 | non | bl (b : Bool) | int (i : Int) | str (x : Str) | byt (b : Array UInt8) | flt (b : UInt64) | ref (a : Addr) | ty (n : String)
 deriving DecidableEq
def RelV : V -> Value -> Prop
 | .non,u=>u = Value.none
 | .bl b,u=>u = Value.bool b
 | .int i,u=>∃ t,u = Value.int i t
 | .str x,u=>∃ t,u = Value.str x t
 | .byt b,u=>∃ t,u = Value.bytes b t
 | .flt b,u=>∃ t,u = Value.float b t
 | .ref a,u=>u = Value.ref a
 | .ty n,u=>u = Value.type n
abbrev Vals : List V -> List Value -> Prop := Paired RelV
theorem Vals.length {xs : List V} {us : List Value} (r : Vals xs us) : xs.length = us.length := Paired.length r
theorem Vals.get : ∀ {xs : List V} {us : List Value} {i : Nat} {x : V},Vals xs us -> xs[i]? = some x -> ∃ u,us[i]? = some u /\ RelV x u
 | _,_,_,_,.nil,e=>by simp at e
 | _,_,0,_,.cons r _,e=>by simp at e; subst e; exact ⟨_,rfl,r⟩
 | _,_,i + 1,x,.cons _ t,e=>by
  obtain ⟨u,h1,h2⟩ := Vals.get (i := i) (x := x) t (by simpa using e)
  exact ⟨u,by simpa using h1,h2⟩
theorem Vals.set {x : V} {u : Value} (r : RelV x u) : ∀ {xs : List V} {us : List Value} (i : Nat),Vals xs us -> Vals (xs.set i x) (us.set i u)
 | _,_,_,.nil=>.nil
 | _,_,0,.cons _ t=>.cons r t
 | _,_,i + 1,.cons q t=>.cons q (Vals.set r i t)
theorem Vals.append : ∀ {xs ys : List V} {us ws : List Value},Vals xs us -> Vals ys ws -> Vals (xs ++ ys) (us ++ ws)
 | _,_,_,_,.nil,s=>s
 | _,_,_,_,.cons r t,s=>.cons r (Vals.append t s)
theorem Vals.take : ∀ {xs : List V} {us : List Value} (n : Nat),Vals xs us -> Vals (xs.take n) (us.take n)
 | _,_,0,_=>.nil
 | _,_,_ + 1,.nil=>.nil
 | _,_,n + 1,.cons r t=>.cons r (Vals.take n t)
theorem Vals.drop : ∀ {xs : List V} {us : List Value} (n : Nat),Vals xs us -> Vals (xs.drop n) (us.drop n)
 | _,_,0,r=>r
 | _,_,_ + 1,.nil=>.nil
 | _,_,n + 1,.cons _ t=>Vals.drop n t
def RelO : Option V -> Option Value -> Prop
 | some v,some u=>RelV v u
 | none,none=>True
 | _,_=>False
def KV {κ : Type} : List (κ × V) -> List (κ × Value) -> Prop := Paired fun (p : κ × V) (q : κ × Value)=>p.1 = q.1 /\ RelV p.2 q.2
def kV : Key -> V
 | .inl i=>.int i
 | .inr x=>.str x
inductive HO where
 | lst (xs : List V)
 | tup (xs : List V)
 | dK (kvs : List (Key × V)) | dT (kvs : List (List Key × V))
 | set (S : Int -> Bool) (n : Nat)
 | ins (C dx : Addr) (fs : List (Str × V))
 | own (x : Addr)
 | xd (fs : List (Str × V))
 | met (f x : Addr)
 | rng (lo hi : Int)
 | frz (o : Obj) (u : HO)
 | tbl (ps : Array Value)
 | ext (φ : Heap -> Prop)
abbrev Hp := Addr -> Option HO
def upd (H : Hp) (a : Addr) (o : HO) : Hp := fun b=>if b = a then some o else H b
theorem aqj {H : Hp} {a : Addr} {o : HO} : upd H a o a = some o := by unfold upd; rw [if_pos rfl]
theorem aqo {H : Hp} {a b : Addr} {o : HO} (h : b ≠ a) : upd H a o b = H b := by unfold upd; rw [if_neg h]
theorem qqx {H : Hp} {a : Addr} {o u : HO} : upd (upd H a o) a u = upd H a u := by
 funext b; unfold upd; split <;> rfl
theorem sqg {H : Hp} {a b : Addr} {o u : HO} (h : H a = some o) (h' : H b = some u) (d : o ≠ u) : a ≠ b := by
 intro e; subst e; rw [h] at h'; exact d (Option.some.inj h')
theorem aqm {H : Hp} {a b : Addr} {o : HO} (h : H a = some o) (h' : H b = none) : a ≠ b := by
 intro e; subst e; rw [h] at h'; cases h'
section
variable (P : Program) (w : World)
def ObjOk (H : Hp) (h : Heap) (a : Addr) : HO -> Prop
 | .lst xs=>xs.length <= sizeLine /\ ∃ (its : List Value) (n : Nat),Vals xs its /\ h.get? a = some { cls := .type "list", data := .seq its.toArray n }
 | .tup xs=>xs.length <= sizeLine /\ ∃ its : List Value,Vals xs its /\ IsTup h a its.toArray
 | .dK kvs=>kvs.length <= sizeLine /\ (a == sysModules) = false /\ ∃ vs,KV kvs vs /\ h.DictOf (mixKind P w) a vs
 | .dT kvs=>kvs.length <= sizeLine /\ (a == sysModules) = false /\ ∃ xs : List (List Key × Addr × Value),
   Paired (fun (p : List Key × V) (q : List Key × Addr × Value)=>p.1 = q.1 /\ H q.2.1 = some (.tup (p.1.map kV)) /\ RelV p.2 q.2.2) kvs xs /\
   ∃ o es ep,h.get? a = some o /\ o.ExactDict /\ o.data = .dict es ep /\ es.toList = xs.map (entryOfKey (tupleKind (mixKind P w))) /\ (xs.map (·.1)).Nodup
 | .set S n=>h.SetOf (intKind P w) a S n
 | .ins C dx fs=>H dx = some (.own a) /\ fs.length <= 1000 /\ dx ≠ a /\ h.get? a = some (PySem.W.instObj C dx) /\
   ∃ mA,h.Ns1 dx mA /\ (∀ f,RelO (fs.lookup f) (mA f)) /\ PySem.Within mA (fs.map (·.1))
 | .own _=>∃ o,h.get? a = some o
 | .xd fs=>∃ mA,h.Ns1 a mA /\ ∀ f,RelO (fs.lookup f) (mA f)
 | .rng lo hi=>∃ t u v,h.get? a = some { cls := .type "range", data := .fields #[.int lo t,.int hi u,.int 1 v] }
 | .frz o u=>h.get? a = some o /\ ObjOk H h a u
 | .tbl ps=>h.get? a = some { cls := .none,data := .fields ps }
 | .met f x=>h.get? a = some (PySem.W.methodObj (.ref f) (.ref x))
 | .ext φ=>φ h /\ (∃ o,h.get? a = some o) /\ ∀ h1 h2 : Heap,φ h1 -> (∀ o,h1.get? a = some o -> h2.get? a = some o) -> φ h2
def HOk (H : Hp) (h : Heap) : Prop := ∀ a o,H a = some o -> ObjOk P w H h a o
end
section
variable {P : Program} {w : World} {H H' : Hp} {h h' : Heap} {a : Addr} {o : HO}
theorem ObjOk.lt (x : ObjOk P w H h a o) : a < h.objs.size := by
 cases o with
 | lst xs=>obtain ⟨_,_,_,_,e⟩ := x; exact Heap.lt_size e
 | tup xs=>obtain ⟨_,_,_,p⟩ := x; exact p.lt
 | dK kvs=>obtain ⟨_,_,_,_,o,_,_,e,_⟩ := x; exact Heap.lt_size e
 | dT kvs=>obtain ⟨_,_,_,_,o,_,_,e,_⟩ := x; exact Heap.lt_size e
 | set S n=>obtain ⟨o,_,_,_,e,_⟩ := x; exact Heap.lt_size e
 | ins C dx fs=>obtain ⟨_,_,_,e,_⟩ := x; exact Heap.lt_size e
 | own y=>obtain ⟨_,e⟩ := x; exact Heap.lt_size e
 | xd fs=>obtain ⟨_,⟨_,_,_,e,_⟩,_⟩ := x; exact Heap.lt_size e
 | rng lo hi=>obtain ⟨_,_,_,e⟩ := x; exact Heap.lt_size e
 | frz ob u=>obtain ⟨e,_⟩ := x; exact Heap.lt_size e
 | tbl ps=>exact Heap.lt_size (show h.get? a = some _ from x)
 | met f y=>exact Heap.lt_size (show h.get? a = some _ from x)
 | ext φ=>obtain ⟨_,⟨_,e⟩,_⟩ := x; exact Heap.lt_size e
theorem Paired.mapP {α β : Type} {F G : α -> β -> Prop} : ∀ {l₁ : List α} {l₂ : List β},Paired F l₁ l₂ -> (∀ a b,F a b -> G a b) -> Paired G l₁ l₂
 | _,_,.nil,_=>.nil
 | _,_,.cons r t,f=>.cons (f _ _ r) (Paired.mapP t f)
theorem ObjOk.stay (x : ObjOk P w H h a o) (k : ∀ b u,(b = a \/ H b = some (.own a)) -> h.get? b = some u -> h'.get? b = some u)
  (ho : ∀ b,H b = some (.own a) -> H' b = some (.own a)) (ht : ∀ b xs,H b = some (.tup xs) -> H' b = some (.tup xs)) : ObjOk P w H' h' a o := by
 induction o with
 | lst xs=>obtain ⟨z,its,n,r,e⟩ := x; exact ⟨z,its,n,r,k _ _ (.inl rfl) e⟩
 | tup xs=>obtain ⟨z,its,r,ob,e,c⟩ := x; exact ⟨z,its,r,ob,k _ _ (.inl rfl) e,c⟩
 | dK kvs=>obtain ⟨z,y,vs,r,ob,es,ep,e,c⟩ := x; exact ⟨z,y,vs,r,ob,es,ep,k _ _ (.inl rfl) e,c⟩
 | dT kvs =>
  obtain ⟨z,y,xs,r,ob,es,ep,e,c⟩ := x
  exact ⟨z,y,xs,Paired.mapP r fun p q z=>⟨z.1,ht _ _ z.2.1,z.2.2⟩,ob,es,ep,k _ _ (.inl rfl) e,c⟩
 | set S n=>obtain ⟨ob,es,ep,t,e,c⟩ := x; exact ⟨ob,es,ep,t,k _ _ (.inl rfl) e,c⟩
 | ins C dx fs =>
  obtain ⟨d,z,ne,e,mA,⟨od,es,ep,e2,c⟩,r⟩ := x
  exact ⟨ho _ d,z,ne,k _ _ (.inl rfl) e,mA,⟨od,es,ep,k _ _ (.inr d) e2,c⟩,r⟩
 | own y=>obtain ⟨ob,e⟩ := x; exact ⟨ob,k _ _ (.inl rfl) e⟩
 | xd fs=>obtain ⟨mA,⟨od,es,ep,e,c⟩,r⟩ := x; exact ⟨mA,⟨od,es,ep,k _ _ (.inl rfl) e,c⟩,r⟩
 | rng lo hi=>obtain ⟨t,u,v,e⟩ := x; exact ⟨t,u,v,k _ _ (.inl rfl) e⟩
 | frz ob u ih=>obtain ⟨e,q⟩ := x; exact ⟨k _ _ (.inl rfl) e,ih q⟩
 | tbl ps =>
  have e : h.get? a = some { cls := .none,data := .fields ps } := x
  show h'.get? a = some { cls := .none,data := .fields ps }
  exact k a _ (.inl rfl) e
 | met f y =>
  have e : h.get? a = some (PySem.W.methodObj (.ref f) (.ref y)) := x
  show h'.get? a = some (PySem.W.methodObj (.ref f) (.ref y))
  exact k a _ (.inl rfl) e
 | ext φ=>obtain ⟨p,⟨o,e⟩,st⟩ := x; exact ⟨st _ _ p fun o q=>k _ _ (.inl rfl) q,⟨o,k _ _ (.inl rfl) e⟩,st⟩
theorem HOk.lt (x : HOk P w H h) (e : H a = some o) : a < h.objs.size := (x a o e).lt
theorem HOk.fresh (x : HOk P w H h) (e : h.objs.size <= a) : H a = none := by
 cases q : H a with
 | none=>rfl
 | some u=>exact absurd (Nat.lt_of_lt_of_le (x.lt q) e) (Nat.lt_irrefl _)
theorem HOk.kept (x : HOk P w H h) (k : ∀ b u,h.get? b = some u -> h'.get? b = some u) : HOk P w H h' := fun a o e =>
 (x a o e).stay (fun b u _ q=>k b u q) (fun _ q=>q) fun _ _ q=>q
theorem HOk.laid (x : HOk P w H h) (k : ∀ b u,h.get? b = some u -> h'.get? b = some u) (hp : h.objs.size <= a) (new : ObjOk P w (upd H a o) h' a o) : HOk P w (upd H a o) h' := fun b u e=>by
 have hn := x.fresh hp
 by_cases hb : b = a
 ·subst hb; rw [aqj] at e; cases e; exact new
 ·rw [aqo hb] at e
  exact (x b u e).stay (fun c v _ q=>k c v q) (fun c q=>by rw [aqo (aqm q hn)]; exact q) fun c xs q=>by rw [aqo (aqm q hn)]; exact q
end
def Rd (H : Hp) (a : Addr) (u : HO) : Prop := H a = some u \/ ∃ o,H a = some (.frz o u)
theorem Rd.ok {P : Program} {w : World} {H : Hp} {h : Heap} {a : Addr} {u : HO} (r : Rd H a u) (x : HOk P w H h) : ObjOk P w H h a u := by
 rcases r with r | ⟨o,r⟩
 ·exact x a u r
 ·obtain ⟨_,q⟩ := x a _ r
  exact q
def Mut : Option HO -> Prop
 | some (.lst _)=>True
 | some (.dK _)=>True
 | some (.dT _)=>True
 | some (.set _ _)=>True
 | some (.ins _ _ _)=>True
 | some (.ext _)=>True
 | _=>False
section
variable {P : Program} {w : World} {H : Hp} {h h' : Heap} {x e : Addr} {o' : HO}
theorem HOk.write (ok : HOk P w H h) (mu : Mut (H x)) (he : e = x \/ H e = some (.own x)) (k : ∀ b u,b ≠ e -> h.get? b = some u -> h'.get? b = some u) (heo : ∃ u,h'.get? e = some u)
  (new : ObjOk P w (upd H x o') h' x o') : HOk P w (upd H x o') h' := fun b u q=>by
 have nown : ∀ c y,H c = some (.own y) -> c ≠ x := fun c y r z=>by subst z; rw [r] at mu; exact mu
 have ntup : ∀ c xs,H c = some (.tup xs) -> c ≠ x := fun c xs r z=>by subst z; rw [r] at mu; exact mu
 by_cases hb : b = x
 ·subst hb; rw [aqj] at q; cases q; exact new
 ·rw [aqo hb] at q
  by_cases hbe : b = e
  ·have q' : H b = some (.own x) := by
    rcases he with z | z
    ·exact absurd (hbe.trans z) hb
    ·rw [hbe]; exact z
   rw [q] at q'; cases q'
   obtain ⟨v,hv⟩ := heo
   exact ⟨v,by rw [hbe]; exact hv⟩
  ·refine (ok b u q).stay (fun c v hc r=>k c v ?_ r) (fun c r=>by rw [aqo (nown c b r)]; exact r) fun c xs r=>by rw [aqo (ntup c xs r)]; exact r
   rcases hc with rfl | hc
   ·exact hbe
   ·rintro rfl
    rcases he with z | z
    ·exact nown c b hc z
    ·rw [hc] at z; cases z; exact hb rfl
end
structure Un (fs ex : List Addr) (H H' : Hp) (h h' : Heap) : Prop where
 keep : ∀ b o,h.get? b = some o -> H b = none -> b ∉ fs -> b ∉ ex -> h'.get? b = some o
 slot : ∀ b o,h.get? b = some o -> H b = none -> b ∈ fs -> b ∉ ex -> ∃ sl,h'.get? b = some { o with slots := sl }
 free : ∀ b o,h.get? b = some o -> H b = none -> b ∉ ex -> H' b = none
 there : ∀ b o,h.get? b = some o -> b ∉ ex -> ∃ o',h'.get? b = some o'
 tups : ∀ b xs,H b = some (.tup xs) -> H' b = some (.tup xs)
 frzs : ∀ b o u,H b = some (.frz o u) -> H' b = some (.frz o u)
 tbls : ∀ b ps,H b = some (.tbl ps) -> ∃ more,H' b = some (.tbl (ps ++ more))
section
variable {fs fs' ex ex' : List Addr} {H H1 H2 : Hp} {h h1 h2 h' : Heap} {a x e : Addr} {o : HO}
theorem Un.any (u : Un fs ex H H1 h h1) {b : Addr} {ob : Obj} (q : h.get? b = some ob) (n : H b = none) (hx : b ∉ ex) : ∃ sl,h1.get? b = some { ob with slots := sl } := by
 by_cases hb : b ∈ fs
 ·exact u.slot b ob q n hb hx
 ·exact ⟨ob.slots,u.keep b ob q n hb hx⟩
theorem Un.kept (k : ∀ b u,h.get? b = some u -> h'.get? b = some u) : Un fs ex H H h h' :=
 ⟨fun b ob q _ _ _=>k b ob q,fun b ob q _ _ _=>⟨ob.slots,k b ob q⟩,fun _ _ _ n _=>n,fun b ob q _=>⟨ob,k b ob q⟩,fun _ _ q=>q,fun _ _ _ q=>q,fun _ ps q=>⟨#[],by rw [q]; simp⟩⟩
theorem Un.refl : Un fs ex H H h h := Un.kept fun _ _ q=>q
theorem Un.laid (k : ∀ b u,h.get? b = some u -> h'.get? b = some u) (hp : h.objs.size <= a) (hn : H a = none) : Un fs ex H (upd H a o) h h' where
 keep := fun b u q _ _ _=>k b u q
 slot := fun b u q _ _ _=>⟨u.slots,k b u q⟩
 free := fun b u q n _=>by rw [aqo (Nat.ne_of_lt (Nat.lt_of_lt_of_le (Heap.lt_size q) hp))]; exact n
 there := fun b u q _=>⟨u,k b u q⟩
 tups := fun b xs q=>by rw [aqo (aqm q hn)]; exact q
 frzs := fun b u xs q=>by rw [aqo (aqm q hn)]; exact q
 tbls := fun b ps q=>⟨#[],by rw [aqo (aqm q hn),q]; simp⟩
theorem Un.write (mu : Mut (H x)) (he : e = x \/ H e = some (.own x)) (k : ∀ b u,b ≠ e -> h.get? b = some u -> h'.get? b = some u) (heo : ∃ u,h'.get? e = some u) : Un fs ex H (upd H x o) h h' := by
 have hx : ∀ b,H b = none -> b ≠ x := fun b n z=>by subst z; rw [n] at mu; exact mu
 have hb : ∀ b,H b = none -> b ≠ e := fun b n z=>by
  subst z
  rcases he with r | r
  ·exact hx b n r
  ·rw [n] at r; cases r
 have hm : ∀ b u,H b = some u -> ¬ Mut (some u) -> b ≠ x := fun b u q nm z=>by subst z; rw [q] at mu; exact nm mu
 refine ⟨fun b u q n _ _=>k b u (hb b n) q,fun b u q n _ _=>⟨u.slots,k b u (hb b n) q⟩,fun b u q n _=>by rw [aqo (hx b n)]; exact n,fun b u q _=>?_,
  fun b xs q=>by rw [aqo (hm b _ q fun z=>z)]; exact q,fun b u xs q=>by rw [aqo (hm b _ q fun z=>z)]; exact q,fun b ps q=>⟨#[],by rw [aqo (hm b _ q fun z=>z),q]; simp⟩⟩
 by_cases hbe : b = e
 ·subst hbe; exact heo
 ·exact ⟨u,k b u hbe q⟩
end
def trk (h : Heap) (H : Hp) : List Addr := (List.range h.objs.size).filter fun a=>(H a).isSome
def hidT (h : Heap) (H : Hp) : Heap := PySem.W.hideAll h (trk h H)
theorem nqR (h : Heap) (H : Hp) : (hidT h H).objs.size = h.objs.size := PySem.W.hideAll_size _ _
theorem oq4 {h : Heap} {H : Hp} {b : Addr} {o : Obj} (e : h.get? b = some o) (n : H b = none) : (hidT h H).get? b = some o :=
 PySem.W.hideAll_get _ e fun hm=>by
  have q : (H b).isSome = true := (List.mem_filter.mp hm).2
  rw [n] at q; simp at q
theorem qqE {h : Heap} {H : Hp} {b : Addr} {o : Obj} (e : (hidT h H).get? b = some o) : h.get? b = some o /\ H b = none := by
 have e' : h.get? b = some o := PySem.W.of_hideAll (trk h H) e
 refine ⟨e',?_⟩
 cases q : H b with
 | none=>rfl
 | some x =>
  have hm : b ∈ trk h H := List.mem_filter.mpr ⟨List.mem_range.mpr (Heap.lt_size e'),by simp [q]⟩
  have z : (hidT h H).get? b = none := PySem.W.hideAll_none (trk h H) hm
  rw [z] at e; cases e
def allNews (g h : Heap) (L : Addr) : List (Addr × Obj) := (List.range h.objs.size).filterMap fun a=>if a = L \/ (g.get? a).isSome = true then none else (h.get? a).map fun o=>(a,o)
def rest (g h : Heap) (L d : Addr) : List (Addr × Obj) := (allNews g h L).filter fun p=>decide (p.1 ≠ d)
structure Mod (K : PySem.W.Frag) (mg : Str -> Option Value) (base : Heap) : Prop where
 kin : K.In base
 glob : base.Ns mainGlobals mg
 blt : ∃ mb,base.Ns builtinsNs mb /\ ∀ x : Str,x ≠ "__name__" -> mb x = bootBuiltins x
 nolimit : base.NoLimit
structure Cx where
 prog : Program
 w : World
 K : PySem.W.Frag
 mg : Str -> Option Value
 base : Heap
 A : Around
 N : List Str
 s₀ : Shared
 H₀ : Hp
 env : Env
 outer : List Env
 stack : List Env
 ex : List Addr
 fn : Str -> Bool
 calm : Bool
 pn : List (Addr × Obj)
 xe : Value -> Shared -> Prop
def frs (l : List Env) : List Addr := l.filterMap (·.frame)
abbrev Cx.fs (X : Cx) : List Addr := frs X.outer
def Vis (sc : Scope) (x : Str) : Prop := sc.names.lookup x = some .local \/ sc.names.lookup x = some .cell \/ sc.names.lookup x = some .free
def Loc (sc : Scope) (x : Str) : Prop := sc.names.lookup x = some .local \/ sc.names.lookup x = some .cell
def Look (env : Env) (h : Heap) (m : Str -> Option Value) (x : Str) (u : Value) : Prop :=
 (env.kindOf x = some .local /\ m x = some u) \/ ((env.kindOf x = some .cell \/ env.kindOf x = some .free) /\ ∃ c,env.cells.lookup x = some c /\ h.IsCell c (some u))
structure Cx.Ok (X : Cx) : Prop where
 mod : Mod X.K X.mg X.base
 kind : X.env.scope.kind = .function
 glob : X.env.globals = mainGlobals
 blt : X.env.builtins = builtinsNs
 above : X.s₀.heap.objs.size <= X.env.locals
 inj : ∀ x y c,X.env.cells.lookup x = some c -> X.env.cells.lookup y = some c -> x = y
 has : ∀ x,(X.env.kindOf x = some .cell \/ X.env.kindOf x = some .free) -> ∃ c,X.env.cells.lookup x = some c
 cab : ∀ x c,X.fn x = true -> X.env.cells.lookup x = some c -> X.s₀.heap.objs.size <= c
 hd : X.calm = true -> X.A.handled = none
 frames : X.A.frames = some X.stack
 stk : X.stack = X.outer \/ (X.stack = X.env :: X.outer /\ X.env.frame = some X.env.locals)
 exf : ∀ b ∈ X.ex,b ≠ X.env.locals /\ ∀ x c,X.env.cells.lookup x = some c -> c ≠ b
 bs : ∀ b o,X.base.get? b = some o -> X.s₀.heap.get? b = some o /\ X.H₀ b = none
 bsz : X.base.objs.size <= X.s₀.heap.objs.size
 noex : ∀ b o,X.base.get? b = some o -> b ∉ X.ex
 exfs : ∀ b ∈ X.ex,b ∉ X.fs
 funs : X.s₀.heap.FunFrames X.base X.outer
 frf : ∀ b ∈ X.fs,X.H₀ b = none
structure Inv (X : Cx) (pins : List (Addr × Obj)) (σ : List (Option V)) (H : Hp) (s : Shared) : Prop where
 ok : X.Ok
 os : s.os = X.s₀.os
 bare : AllBare s.gens
 base : Un X.fs X.ex X.H₀ H X.s₀.heap s.heap
 loc : ∃ m,s.heap.Ns X.env.locals m /\ ∀ (i : Nat) (x : Str) (v : V),X.N[i]? = some x -> σ[i]? = some (some v) -> Vis X.env.scope x -> ∃ u,RelV v u /\ Look X.env s.heap m x u
 cell : ∀ x c,X.env.cells.lookup x = some c -> ∃ v,s.heap.IsCell c v
 free : H X.env.locals = none
 freeC : ∀ x c,X.env.cells.lookup x = some c -> H c = none
 pin : ∀ p ∈ X.pn ++ pins,s.heap.get? p.1 = some p.2 /\ H p.1 = none /\ p.1 ≠ X.env.locals /\ p.1 ∉ X.fs /\ ∀ v,p.2.data ≠ .cell v
 hok : HOk X.prog X.w H s.heap
 len : σ.length = X.N.length
section
variable {X : Cx} {pins : List (Addr × Obj)} {σ : List (Option V)} {H H' : Hp} {s : Shared} {h' : Heap}
theorem Cx.Ok.nofr (ok : X.Ok) {b : Addr} {o : Obj} (e : X.base.get? b = some o) : b ∉ X.fs := fun hb=>by
 have := (ok.funs.mem hb).1
 rw [e] at this; cases this
theorem Inv.bs (I : Inv X pins σ H s) : ∀ b o,X.base.get? b = some o -> s.heap.get? b = some o /\ H b = none := fun b o e =>
 ⟨I.base.keep b o (I.ok.bs b o e).1 (I.ok.bs b o e).2 (I.ok.nofr e) (I.ok.noex b o e),I.base.free b o (I.ok.bs b o e).1 (I.ok.bs b o e).2 (I.ok.noex b o e)⟩
theorem Inv.bk (I : Inv X pins σ H s) : ∀ b o,X.base.get? b = some o -> s.heap.get? b = some o := fun b o e=>(I.bs b o e).1
theorem Inv.mod (I : Inv X pins σ H s) : Mod X.K X.mg X.base := I.ok.mod
theorem Inv.kIn (I : Inv X pins σ H s) : X.K.In s.heap := I.ok.mod.kin.keeps I.bk
theorem Inv.lt (I : Inv X pins σ H s) : X.env.locals < s.heap.objs.size := let ⟨_,hn,_⟩ := I.loc; hn.lt
theorem Inv.sz (I : Inv X pins σ H s) : X.s₀.heap.objs.size <= s.heap.objs.size := Nat.le_trans I.ok.above (Nat.le_of_lt I.lt)
theorem Inv.nofs (I : Inv X pins σ H s) {a : Addr} (h : s.heap.objs.size <= a) : a ∉ X.fs := fun hb=>by
 obtain ⟨_,o,ho,_⟩ := I.ok.funs.mem hb
 exact absurd (Nat.lt_of_lt_of_le (Heap.lt_size ho) (Nat.le_trans I.sz h)) (Nat.lt_irrefl _)
theorem Inv.cne (I : Inv X pins σ H s) : ∀ x c,X.env.cells.lookup x = some c -> c ≠ X.env.locals := fun x c e z=>by
 obtain ⟨v,o,ho,hd⟩ := I.cell x c e
 obtain ⟨m,⟨o',es,ep,ho',hd',_⟩,_⟩ := I.loc
 rw [z,ho'] at ho; cases ho; rw [hd'] at hd; cases hd
theorem Inv.funs (I : Inv X pins σ H s) : s.heap.FunFrames X.base X.outer := by
 have all : ∀ (l : List Env),(∀ b ∈ frs l,b ∈ X.fs) -> X.s₀.heap.FunFrames X.base l -> s.heap.FunFrames X.base l := by
  intro l
  induction l with
  | nil=>intro _ _; trivial
  | cons env r ih =>
   intro hs hl
   obtain ⟨hk,⟨L,o,hf,hn,ho,hd⟩,hr⟩ := hl
   have hL : L ∈ X.fs := hs L (by unfold frs; rw [List.filterMap_cons,hf]; exact List.mem_cons_self)
   obtain ⟨sl,e⟩ := I.base.slot L o ho (I.ok.frf L hL) hL fun z=>I.ok.exfs L z hL
   exact ⟨hk,⟨L,_,hf,hn,e,hd⟩,ih (fun b hb=>hs b (by unfold frs; rw [List.filterMap_cons,hf]; exact List.mem_cons_of_mem _ hb)) hr⟩
 exact all X.outer (fun _ hb=>hb) I.ok.funs
theorem Inv.stack (I : Inv X pins σ H s) : s.heap.FunFrames X.base X.stack := by
 rcases I.ok.stk with e | ⟨e,hf⟩
 ·rw [e]; exact I.funs
 ·rw [e]
  obtain ⟨m,hn,_⟩ := I.loc
  refine .cons (by rw [I.ok.kind]; decide) hf hn ?_ I.funs
  exact Heap.get?_none_of_le (Nat.le_trans I.ok.bsz I.ok.above)
theorem Inv.stkSub (I : Inv X pins σ H s) : ∀ b ∈ frs X.stack,b ∈ X.env.locals :: X.fs := fun b hb=>by
 rcases I.ok.stk with e | ⟨e,hf⟩
 ·rw [e] at hb; exact List.mem_cons_of_mem _ hb
 ·rw [e] at hb
  unfold frs at hb
  rw [List.filterMap_cons,hf] at hb
  exact hb
theorem Inv.stkFree (I : Inv X pins σ H s) : ∀ b ∈ frs X.stack,H b = none := fun b hb=>by
 rcases List.mem_cons.mp (I.stkSub b hb) with e | hb
 ·rw [e]; exact I.free
 ·obtain ⟨_,o,ho,_⟩ := I.ok.funs.mem hb
  exact I.base.free b o ho (I.ok.frf b hb) fun z=>I.ok.exfs b z hb
theorem Inv.step {g' : Array GenState} {t' : Nat} {d' : Drawn} {ch : List Addr} (I : Inv X pins σ H s)
  (hch : ∀ b ∈ ch,(b ∈ X.ex \/ X.s₀.heap.objs.size <= b) /\ b ≠ X.env.locals /\ (∀ x c,X.env.cells.lookup x = some c -> c ≠ b) /\ ∀ p ∈ X.pn ++ pins,p.1 ≠ b)
  (keep : ∀ b o,b ≠ X.env.locals -> b ∉ X.fs -> b ∉ ch -> s.heap.get? b = some o -> H b = none -> h'.get? b = some o)
  (slot : ∀ b o,b ≠ X.env.locals -> b ∈ X.fs -> b ∉ ch -> s.heap.get? b = some o -> H b = none -> ∃ sl,h'.get? b = some { o with slots := sl }) (free : ∀ b o,b ∉ ch -> s.heap.get? b = some o -> H b = none -> H' b = none)
  (there : ∀ b o,b ∉ ch -> s.heap.get? b = some o -> ∃ o',h'.get? b = some o')
  (tups : ∀ b xs,H b = some (.tup xs) -> H' b = some (.tup xs)) (frzs : ∀ b o u,H b = some (.frz o u) -> H' b = some (.frz o u)) (tbls : ∀ b ps,H b = some (.tbl ps) -> ∃ more,H' b = some (.tbl (ps ++ more)))
  (ns : ∀ m,s.heap.Ns X.env.locals m -> h'.Ns X.env.locals m) (hok : HOk X.prog X.w H' h') (hg : AllBare g') :
  Inv X pins σ H' { s with heap := h',gens := g',drawn := d',toks := t' } := by
 have neL : ∀ b o,X.s₀.heap.get? b = some o -> b ≠ X.env.locals := fun b o e=>Nat.ne_of_lt (Nat.lt_of_lt_of_le (Heap.lt_size e) I.ok.above)
 have neC : ∀ b o,X.s₀.heap.get? b = some o -> b ∉ X.ex -> b ∉ ch := fun b o e hx hb=>by
  rcases (hch b hb).1 with z | z
  ·exact hx z
  ·exact absurd (Nat.lt_of_lt_of_le (Heap.lt_size e) z) (Nat.lt_irrefl _)
 have cellK : ∀ x c,X.env.cells.lookup x = some c -> ∀ v,s.heap.IsCell c v -> h'.IsCell c v := fun x c e v ⟨o,ho,hd⟩=>by
  have nch : c ∉ ch := fun z=>(hch c z).2.2.1 x c e rfl
  by_cases hc : c ∈ X.fs
  ·obtain ⟨sl,q⟩ := slot c o (I.cne x c e) hc nch ho (I.freeC x c e)
   exact ⟨_,q,hd⟩
  ·exact ⟨o,keep c o (I.cne x c e) hc nch ho (I.freeC x c e),hd⟩
 refine ⟨I.ok,I.os,hg,⟨fun b o e n hb hx=>?_,fun b o e n hb hx=>?_,fun b o e n hx=>?_,fun b o e hx=>?_,fun b xs e=>tups b xs (I.base.tups b xs e),fun b o xs e=>frzs b o xs (I.base.frzs b o xs e),fun b ps e=>?_⟩,?_,fun x c e=>?_,?_,fun x c e=>?_,fun p hp=>?_,hok,I.len⟩
 ·exact keep b o (neL b o e) hb (neC b o e hx) (I.base.keep b o e n hb hx) (I.base.free b o e n hx)
 ·obtain ⟨sl,e1⟩ := I.base.slot b o e n hb hx
  obtain ⟨sl',e2⟩ := slot b _ (neL b o e) hb (neC b o e hx) e1 (I.base.free b o e n hx)
  exact ⟨sl',e2⟩
 ·obtain ⟨o',e1⟩ := I.base.there b o e hx
  exact free b o' (neC b o e hx) e1 (I.base.free b o e n hx)
 ·obtain ⟨o',e1⟩ := I.base.there b o e hx
  exact there b o' (neC b o e hx) e1
 ·obtain ⟨m1,e1⟩ := I.base.tbls b ps e
  obtain ⟨m2,e2⟩ := tbls b _ e1
  exact ⟨m1 ++ m2,by rw [e2,Array.append_assoc]⟩
 ·obtain ⟨m,hn,hl⟩ := I.loc
  refine ⟨m,ns m hn,fun i x v e1 e2 e3=>?_⟩
  obtain ⟨u,r,l⟩ := hl i x v e1 e2 e3
  refine ⟨u,r,?_⟩
  rcases l with l | ⟨k,c,e,z⟩
  ·exact .inl l
  ·exact .inr ⟨k,c,e,cellK x c e _ z⟩
 ·obtain ⟨v,z⟩ := I.cell x c e
  exact ⟨v,cellK x c e v z⟩
 ·obtain ⟨m,⟨o,_,_,ho,_⟩,_⟩ := I.loc
  exact free _ o (fun z=>(hch _ z).2.1 rfl) ho I.free
 ·obtain ⟨v,o,ho,hd⟩ := I.cell x c e
  exact free c o (fun z=>(hch c z).2.2.1 x c e rfl) ho (I.freeC x c e)
 ·obtain ⟨e,n,ne,nf,d⟩ := I.pin p hp
  have nch : p.1 ∉ ch := fun z=>(hch p.1 z).2.2.2 p hp rfl
  exact ⟨keep p.1 p.2 ne nf nch e n,free p.1 p.2 nch e n,ne,nf,d⟩
theorem Inv.un {t' : Nat} (I : Inv X pins σ H s) (u : Un X.fs [] H H' s.heap h') (hok : HOk X.prog X.w H' h') : Inv X pins σ H' { s with heap := h',toks := t' } := by
 obtain ⟨m,⟨o,es,ep,ho,r⟩,_⟩ := id I.loc
 obtain ⟨sl,hL⟩ := u.any ho I.free (by simp)
 exact I.step (g' := s.gens) (d' := s.drawn) (ch := []) (fun _ z=>nomatch z) (fun b o _ hb _ e n=>u.keep b o e n hb (by simp)) (fun b o _ hb _ e n=>u.slot b o e n hb (by simp)) (fun b o _ e n=>u.free b o e n (by simp)) (fun b o _ e=>u.there b o e (by simp)) u.tups u.frzs u.tbls (fun m' hm=>by
  obtain ⟨o',es',ep',ho',r'⟩ := hm
  rw [ho] at ho'; cases ho'
  exact ⟨_,es',ep',hL,r'⟩) hok I.bare
theorem Inv.call {g' : Array GenState} {t' : Nat} {d' : Drawn} {ch : List Addr} (I : Inv X pins σ H s) (u : Un (frs X.stack) ch H H' s.heap h') (hok : HOk X.prog X.w H' h') (hg : AllBare g')
  (hch : ∀ b ∈ ch,(b ∈ X.ex \/ X.s₀.heap.objs.size <= b) /\ b ≠ X.env.locals /\ (∀ x c,X.env.cells.lookup x = some c -> c ≠ b) /\ ∀ p ∈ X.pn ++ pins,p.1 ≠ b) :
  Inv X pins σ H' { s with heap := h',gens := g',drawn := d',toks := t' } := by
 obtain ⟨m,⟨o,es,ep,ho,r⟩,_⟩ := id I.loc
 obtain ⟨sl,hL⟩ := u.any ho I.free fun z=>(hch _ z).2.1 rfl
 exact I.step (ch := ch) hch (fun b o hL hb hc e n=>u.keep b o e n (fun z=>(List.mem_cons.mp (I.stkSub b z)).elim hL hb) hc) (fun b o _ _ hc e n=>u.any e n hc) (fun b o hc e n=>u.free b o e n hc) (fun b o hc e=>u.there b o e hc) u.tups u.frzs u.tbls (fun m' hm=>by
  obtain ⟨o',es',ep',ho',r'⟩ := hm
  rw [ho] at ho'; cases ho'
  exact ⟨_,es',ep',hL,r'⟩) hok hg
theorem Inv.turned {t' : Nat} {it : Addr} (I : Inv X pins σ H s) (k : ∀ b o,b ≠ it -> s.heap.get? b = some o -> h'.get? b = some o) (hn : H it = none) (hL : it ≠ X.env.locals)
  (h1 : it ∈ X.ex \/ X.s₀.heap.objs.size <= it) (h2 : ∀ x c,X.env.cells.lookup x = some c -> c ≠ it) (h3 : ∀ p ∈ X.pn ++ pins,p.1 ≠ it) : Inv X pins σ H { s with heap := h',toks := t' } := by
 have nit : ∀ b u,H b = some u -> b ≠ it := fun b u e z=>by rw [z,hn] at e; cases e
 refine I.step (g' := s.gens) (d' := s.drawn) (ch := [it]) (fun b hb=>?_) (fun b o _ _ hc e _=>k b o (fun z=>hc (by simp [z])) e) (fun b o _ _ hc e _=>⟨o.slots,k b o (fun z=>hc (by simp [z])) e⟩) (fun _ _ _ _ n=>n)
  (fun b o hc e=>⟨o,k b o (fun z=>hc (by simp [z])) e⟩) (fun _ _ e=>e) (fun _ _ _ e=>e) (fun b ps e=>⟨#[],by rw [e]; simp⟩) (fun m hm=>?_) (fun b u e=>?_) I.bare
 ·have e : b = it := by simpa using hb
  subst e
  exact ⟨h1,hL,h2,h3⟩
 ·obtain ⟨o,es,ep,ho,r⟩ := hm
  exact ⟨o,es,ep,k _ o (Ne.symm hL) ho,r⟩
 ·refine (I.hok b u e).stay (fun c v hc q=>k c v ?_ q) (fun _ q=>q) fun _ _ q=>q
  rcases hc with z | z
  ·rw [z]; exact nit b u e
  ·exact nit c _ z
theorem Inv.tok (I : Inv X pins σ H s) (t : Nat) : Inv X pins σ H { s with toks := t } := I.un (h' := s.heap) (t' := t) Un.refl I.hok
theorem Inv.kept {t' : Nat} (I : Inv X pins σ H s) (k : ∀ b u,s.heap.get? b = some u -> h'.get? b = some u) : Inv X pins σ H { s with heap := h',toks := t' } := I.un (Un.kept k) (I.hok.kept k)
theorem Inv.laid {a : Addr} {o : HO} {t' : Nat} (I : Inv X pins σ H s) (k : ∀ b u,s.heap.get? b = some u -> h'.get? b = some u) (hp : s.heap.objs.size <= a) (new : ObjOk X.prog X.w (upd H a o) h' a o) :
  Inv X pins σ (upd H a o) { s with heap := h',toks := t' } := I.un (Un.laid k hp (I.hok.fresh hp)) (I.hok.laid k hp new)
theorem Inv.write {x e : Addr} {o : HO} {t' : Nat} (I : Inv X pins σ H s) (mu : Mut (H x)) (he : e = x \/ H e = some (.own x)) (k : ∀ b u,b ≠ e -> s.heap.get? b = some u -> h'.get? b = some u) (heo : ∃ u,h'.get? e = some u)
  (new : ObjOk X.prog X.w (upd H x o) h' x o) : Inv X pins σ (upd H x o) { s with heap := h',toks := t' } := I.un (Un.write mu he k heo) (I.hok.write mu he k heo new)
theorem Inv.pins_of {pins' : List (Addr × Obj)} (I : Inv X pins σ H s) (h : ∀ p ∈ pins',s.heap.get? p.1 = some p.2 /\ H p.1 = none /\ p.1 ≠ X.env.locals /\ p.1 ∉ X.fs /\ ∀ v,p.2.data ≠ .cell v) : Inv X pins' σ H s :=
 ⟨I.ok,I.os,I.bare,I.base,I.loc,I.cell,I.free,I.freeC,fun p hp=>(List.mem_append.mp hp).elim (fun z=>I.pin p (List.mem_append_left _ z)) (h p),I.hok,I.len⟩
theorem mqm {N : List Str} (hN : N.Nodup) {i j : Nat} {x : Str} (a : N[i]? = some x) (b : N[j]? = some x) : i = j := by
 obtain ⟨h1,e1⟩ := List.getElem?_eq_some_iff.mp a
 obtain ⟨h2,e2⟩ := List.getElem?_eq_some_iff.mp b
 exact (List.getElem_inj hN).mp (e1.trans e2.symm)
theorem hqR {M : Model} {A : Around} {E : Value -> Shared -> Prop} {i : Nat} {x : Str} {v : V} {u : Value} {Q : Unit -> Shared -> Prop} (I : Inv X pins σ H s) (hN : X.N.Nodup) (hi : X.N[i]? = some x) (hx : Loc X.env.scope x) (r : RelV v u)
  (h : ∀ s',Inv X pins (σ.set i (some v)) H s' -> (∃ a,Heap.SameBut a s.heap s'.heap /\ (a = X.env.locals \/ X.env.cells.lookup x = some a)) -> Q () s') (hf : X.fn x = true \/ X.env.scope.names.lookup x = some .local := by first | exact .inl rfl | exact .inr rfl | assumption) : wpAny M A (storeName X.env x u) Q E s := by
 obtain ⟨m,hn,hl⟩ := id I.loc
 have hcls : (X.env.scope.kind == .class || (X.env.scope.kind == .module && X.env.locals != X.env.globals)) = false := by rw [I.ok.kind]; rfl
 have hiσ : i < σ.length := by rw [I.len]; exact (List.getElem?_eq_some_iff.mp hi).1
 have cne := I.cne
 have tracked : ∀ {a : Addr} {h' : Heap},(∃ o,s.heap.get? a = some o /\ H a = none) -> Heap.SameBut a s.heap h' -> HOk X.prog X.w H h' := fun {a h'} ha hs b ob e=>by
  obtain ⟨_,_,hfree⟩ := ha
  refine (I.hok b ob e).stay (fun c w' hc q=>(hs.2 c ?_).trans q) (fun _ q=>q) fun _ _ q=>q
  rintro rfl
  rcases hc with rfl | hc
  ·rw [hfree] at e; cases e
  ·rw [hfree] at hc; cases hc
 rcases hx with hk | hk
 ·refine wpAny_storeName_local hk hn (fun h' hn' hs=>?_) hcls
  obtain ⟨oL,_,_,hoL,_⟩ := id hn
  refine h _ ⟨I.ok,I.os,I.bare,⟨fun b o e n hb hx=>?_,fun b o e n hb hx=>?_,I.base.free,fun b o e hx=>?_,I.base.tups,I.base.frzs,I.base.tbls⟩,⟨_,hn',fun j y v' e1 e2 e3=>?_⟩,fun y c e=>?_,I.free,I.freeC,fun p hp=>?_,tracked ⟨oL,hoL,I.free⟩ hs,by simpa using I.len⟩ ⟨_,hs,.inl rfl⟩
  ·exact (hs.2 b (Nat.ne_of_lt (Nat.lt_of_lt_of_le (Heap.lt_size e) I.ok.above))).trans (I.base.keep b o e n hb hx)
  ·obtain ⟨sl,e1⟩ := I.base.slot b o e n hb hx
   exact ⟨sl,(hs.2 b (Nat.ne_of_lt (Nat.lt_of_lt_of_le (Heap.lt_size e) I.ok.above))).trans e1⟩
  ·obtain ⟨o',e1⟩ := I.base.there b o e hx
   exact ⟨o',(hs.2 b (Nat.ne_of_lt (Nat.lt_of_lt_of_le (Heap.lt_size e) I.ok.above))).trans e1⟩
  ·by_cases hj : j = i
   ·subst hj
    rw [hi] at e1; cases e1
    rw [List.getElem?_set_self hiσ] at e2
    cases e2
    exact ⟨u,r,.inl ⟨hk,by simp⟩⟩
   ·rw [List.getElem?_set_ne (Ne.symm hj)] at e2
    obtain ⟨u',r',q⟩ := hl j y v' e1 e2 e3
    refine ⟨u',r',?_⟩
    rcases q with ⟨k,e⟩ | ⟨k,c,e,z⟩
    ·refine .inl ⟨k,?_⟩
     have : y ≠ x := fun e=>hj (mqm hN e1 (e ▸ hi))
     simp [this,e]
    ·exact .inr ⟨k,c,e,z.sameBut hs (cne y c e)⟩
  ·obtain ⟨w',z⟩ := I.cell y c e
   exact ⟨w',z.sameBut hs (cne y c e)⟩
  ·obtain ⟨e,n,ne,nf,d⟩ := I.pin p hp
   exact ⟨(hs.2 p.1 ne).trans e,n,ne,nf,d⟩
 ·have hfn : X.fn x = true := by
   rcases hf with z | z
   ·exact z
   ·rw [z] at hk; cases hk
  obtain ⟨c,hc⟩ := I.ok.has x (.inl hk)
  obtain ⟨w',z⟩ := I.cell x c hc
  refine wpAny_storeName_cell I.ok.kind hk hc z (fun h' hc' hs=>?_)
  obtain ⟨oc,hoc,hocd⟩ := id z
  refine h { s with heap := h' } ⟨I.ok,I.os,I.bare,⟨fun b o e n hb hx=>?_,fun b o e n hb hx=>?_,I.base.free,fun b o e hx=>?_,I.base.tups,I.base.frzs,I.base.tbls⟩,⟨m,hn.sameBut hs (Ne.symm (cne x c hc)),fun j y v' e1 e2 e3=>?_⟩,fun y c' e=>?_,I.free,I.freeC,fun p hp=>?_,tracked ⟨oc,hoc,I.freeC x c hc⟩ hs,by simpa using I.len⟩ ⟨c,hs,.inr hc⟩
  ·exact (hs.2 b (Nat.ne_of_lt (Nat.lt_of_lt_of_le (Heap.lt_size e) (I.ok.cab x c hfn hc)))).trans (I.base.keep b o e n hb hx)
  ·obtain ⟨sl,e1⟩ := I.base.slot b o e n hb hx
   exact ⟨sl,(hs.2 b (Nat.ne_of_lt (Nat.lt_of_lt_of_le (Heap.lt_size e) (I.ok.cab x c hfn hc)))).trans e1⟩
  ·obtain ⟨o',e1⟩ := I.base.there b o e hx
   exact ⟨o',(hs.2 b (Nat.ne_of_lt (Nat.lt_of_lt_of_le (Heap.lt_size e) (I.ok.cab x c hfn hc)))).trans e1⟩
  ·by_cases hj : j = i
   ·subst hj
    rw [hi] at e1; cases e1
    rw [List.getElem?_set_self hiσ] at e2
    cases e2
    exact ⟨u,r,.inr ⟨.inl hk,c,hc,hc'⟩⟩
   ·rw [List.getElem?_set_ne (Ne.symm hj)] at e2
    obtain ⟨u',r',q⟩ := hl j y v' e1 e2 e3
    refine ⟨u',r',?_⟩
    rcases q with q | ⟨k,c',e,z'⟩
    ·exact .inl q
    ·refine .inr ⟨k,c',e,z'.sameBut hs ?_⟩
     rintro rfl
     exact hj (mqm hN e1 (I.ok.inj _ _ _ e hc ▸ hi))
  ·by_cases hcc : c' = c
   ·subst hcc; exact ⟨_,hc'⟩
   ·obtain ⟨w2,z2⟩ := I.cell y c' e
    exact ⟨w2,z2.sameBut hs hcc⟩
  ·obtain ⟨e,n,ne,nf,d⟩ := I.pin p hp
   refine ⟨(hs.2 p.1 ?_).trans e,n,ne,nf,d⟩
   intro q
   rw [q,hoc] at e
   have q' : oc = p.2 := Option.some.inj e
   exact d w' (by rw [<- q']; exact hocd)
theorem mqk {M : Model} {A : Around} {E : Value -> Shared -> Prop} {i : Nat} {x : Str} {v : V} {u : Value} {Q : Unit -> Shared -> Prop} (I : Inv X pins σ H s) (hN : X.N.Nodup) (hi : X.N[i]? = some x) (hx : Loc X.env.scope x) (r : RelV v u)
  (h : ∀ s',Inv X pins (σ.set i (some v)) H s' -> Q () s') (hf : X.fn x = true \/ X.env.scope.names.lookup x = some .local := by first | exact .inl rfl | exact .inr rfl | assumption) : wpAny M A (storeName X.env x u) Q E s :=
 hqR I hN hi hx r (fun s' I' _=>h s' I') hf
theorem Inv.call' {s' : Shared} {ch : List Addr} (I : Inv X pins σ H s) (ho : s'.os = s.os) (u : Un (frs X.stack) ch H H' s.heap s'.heap) (hok : HOk X.prog X.w H' s'.heap) (hg : AllBare s'.gens)
  (hch : ∀ b ∈ ch,(b ∈ X.ex \/ X.s₀.heap.objs.size <= b) /\ b ≠ X.env.locals /\ (∀ x c,X.env.cells.lookup x = some c -> c ≠ b) /\ ∀ p ∈ X.pn ++ pins,p.1 ≠ b) : Inv X pins σ H' s' := by
 obtain ⟨h',g',d',t',o'⟩ := s'
 have e : o' = s.os := ho
 subst e
 exact I.call (g' := g') (t' := t') (d' := d') u hok hg hch
end
abbrev XK := Value -> Option Addr -> Hp -> Prop
abbrev St := List (Option V)
abbrev VK := V -> Hp -> Prop
abbrev TE := St -> Hp -> VK -> Prop
abbrev TT := St -> Hp -> (Bool -> Hp -> Prop) -> Prop
abbrev TA := St -> Hp -> (List V -> Hp -> Prop) -> Prop
structure Ends where
 nx : St -> Hp -> Prop
 rt : VK
 bk : St -> Hp -> Prop := fun _ _=>False
 ct : St -> Hp -> Prop := fun _ _=>False
abbrev TS := Ends -> St -> Hp -> Prop
def EP (X : Cx) (pins : List (Addr × Obj)) (σ : St) (Q : VK) (u : Value) (s' : Shared) : Prop := ∃ v H',Inv X pins σ H' s' /\ RelV v u /\ Q v H'
def TP (X : Cx) (pins : List (Addr × Obj)) (σ : St) (Q : Bool -> Hp -> Prop) (b : Bool) (s' : Shared) : Prop := ∃ H',Inv X pins σ H' s' /\ Q b H'
def AP (X : Cx) (pins : List (Addr × Obj)) (σ : St) (Q : List V -> Hp -> Prop) (us : List Value) (s' : Shared) : Prop := ∃ vs H',Inv X pins σ H' s' /\ Vals vs us /\ Q vs H'
def SP (X : Cx) (pins : List (Addr × Obj)) (D : Ends) (f : Flow) (s' : Shared) : Prop :=
 match f with
 | .next=>∃ σ' H',Inv X pins σ' H' s' /\ D.nx σ' H'
 | .brk=>∃ σ' H',Inv X pins σ' H' s' /\ D.bk σ' H'
 | .cont=>∃ σ' H',Inv X pins σ' H' s' /\ D.ct σ' H'
 | .ret u=>∃ v σ' H',Inv X pins σ' H' s' /\ RelV v u /\ D.rt v H'
def PE (X : Cx) (e : Expr) (t : TE) : Prop :=
 ∀ (pins : List (Addr × Obj)) (s : Shared) (σ : St) (H : Hp) (Q : VK),Inv X pins σ H s -> t σ H Q -> wpAny (model X.prog X.w) X.A (eval e X.env) (EP X pins σ Q) X.xe s
def PT (X : Cx) (e : Expr) (t : TT) : Prop :=
 ∀ (pins : List (Addr × Obj)) (s : Shared) (σ : St) (H : Hp) (Q : Bool -> Hp -> Prop),Inv X pins σ H s -> t σ H Q -> wpAny (model X.prog X.w) X.A (isTrue e X.env (eval e X.env)) (TP X pins σ Q) X.xe s
def PW (X : Cx) (e : Expr) (t : TT) : Prop :=
 ∀ (whole : Sem Value) (pins : List (Addr × Obj)) (s : Shared) (σ : St) (H : Hp) (Q : Bool -> Hp -> Prop),Inv X pins σ H s -> t σ H Q -> wpAny (model X.prog X.w) X.A (isTrue e X.env whole) (TP X pins σ Q) X.xe s
theorem PW.pt {X : Cx} {e : Expr} {t : TT} (h : PW X e t) : PT X e t := h _
def PA (X : Cx) (es : List Expr) (t : TA) : Prop :=
 ∀ (pos : Pos) (pins : List (Addr × Obj)) (s : Shared) (σ : St) (H : Hp) (Q : List V -> Hp -> Prop),Inv X pins σ H s -> t σ H Q -> wpAny (model X.prog X.w) X.A (spliced (backTo pos (starEach es X.env))) (AP X pins σ Q) X.xe s
def PS (X : Cx) (st : Stmt) (t : TS) : Prop :=
 ∀ (pins : List (Addr × Obj)) (s : Shared) (σ : St) (H : Hp) (D : Ends),Inv X pins σ H s -> t D σ H -> wpAny (model X.prog X.w) X.A (exec st X.env) (SP X pins D) X.xe s
def PSs (X : Cx) (st : List Stmt) (t : TS) : Prop :=
 ∀ (pins : List (Addr × Obj)) (s : Shared) (σ : St) (H : Hp) (D : Ends),Inv X pins σ H s -> t D σ H -> wpAny (model X.prog X.w) X.A (execs st X.env) (SP X pins D) X.xe s
theorem thn {α : Type} {t : Sem α} {Q Q' : α -> Shared -> Prop} {M : Model} {A : Around} {E : Value -> Shared -> Prop} {s : Shared} (h : wpAny M A t Q E s) (hQ : ∀ a s,Q a s -> Q' a s) : wpAny M A t Q' E s := wpAny_mono h hQ fun _ _ x=>x
section
variable {X : Cx}
theorem bin {a b : Expr} {ta tb : TE} (ha : PE X a ta) (hb : PE X b tb) {pins : List (Addr × Obj)} {s : Shared} {σ : St} {H : Hp} {R : V -> V -> Hp -> Prop} (I : Inv X pins σ H s) (h : ta σ H fun x H1=>tb σ H1 fun y H2=>R x y H2)
  {α : Type} {Q : α -> Shared -> Prop} {f : Value -> Value -> Sem α}
  (hf : ∀ v u s2 x y H2,Inv X pins σ H2 s2 -> RelV x v -> RelV y u -> R x y H2 -> wpAny (model X.prog X.w) X.A (f v u) Q X.xe s2) :
  wpAny (model X.prog X.w) X.A (eval a X.env) (fun v s₁=>wpAny (model X.prog X.w) X.A (eval b X.env) (fun u s₂=>wpAny (model X.prog X.w) X.A (f v u) Q X.xe s₂) X.xe s₁) X.xe s := by
 refine thn (ha pins s σ H _ I h) fun v s1 W' => ?_
 obtain ⟨x,H1,I1,r1,q1⟩ := W'
 refine thn (hb pins s1 σ H1 _ I1 q1) fun u s2 W' => ?_
 obtain ⟨y,H2,I2,r2,q2⟩ := W'
 exact hf v u s2 x y H2 I2 r1 r2 q2
def tVar (i : Nat) : TE := fun σ H Q=>∃ v,σ[i]? = some (some v) /\ Q v H
def tC (v : V) : TE := fun _ H Q=>Q v H
theorem rq9 {i : Nat} {x : Str} {pos : Pos} (hN : X.N[i]? = some x) (hv : Vis X.env.scope x) (hd : (x == ("__debug__" : Str)) = false := by decide) (hcd : (x == ("__classdict__" : Str)) = false := by decide) : PE X (.Name x pos) (tVar i) := by
 intro pins s σ H Q I h
 obtain ⟨v,e,h⟩ := h
 obtain ⟨m,hn,hl⟩ := I.loc
 obtain ⟨u,r,l⟩ := hl i x v hN e hv
 have fin : EP X pins σ Q u s := ⟨v,H,I,r,h⟩
 rcases l with ⟨hk,hm⟩ | ⟨hk,c,hc,hcell⟩
 ·exact wpAny_Name (wpAny_loadName_local I.ok.kind hk hn hm fin) hd
 ·rcases hk with hk | hk
  ·exact wpAny_Name (wpAny_loadName_cell I.ok.kind hk hc hcell fin) hd
  ·exact wpAny_Name (wpAny_loadName_free I.ok.kind hk hc hcell fin hcd) hd
theorem aqc {i j pos} : PE X (.Constant (.int i) j pos) (tC (.int i)) := fun _ _ _ H _ I h=>wpAny_Constant_int ⟨.int i,H,I.tok _,⟨_,rfl⟩,h⟩
theorem cqV {b j pos} : PE X (.Constant (.bool b) j pos) (tC (.bl b)) := fun _ _ _ H _ I h=>Constant_bool ⟨.bl b,H,I,rfl,h⟩
theorem cqz {j pos} : PE X (.Constant .none j pos) (tC .non) := fun _ _ _ H _ I h=>Constant_none ⟨.non,H,I,rfl,h⟩
theorem aqv {x j pos} : PE X (.Constant (.str x) j pos) (tC (.str x)) := fun _ _ _ H _ I h=>Calls.Constant_str ⟨.str x,H,I.tok _,⟨_,rfl⟩,h⟩
def Gl (X : Cx) (x : Str) : Prop := X.env.kindOf x = some .globalImplicit
theorem iqn {E : Value -> Shared -> Prop} {pins : List (Addr × Obj)} {s : Shared} {σ : St} {H : Hp} {x : Str} {u : Value} {pos : Pos} {Q : Value -> Shared -> Prop} (I : Inv X pins σ H s) (hg : Gl X x) (hm : X.mg x = some u) (h : Q u s)
  (hd : (x == ("__debug__" : Str)) = false := by decide) : wpAny (model X.prog X.w) X.A (eval (.Name x pos) X.env) Q E s :=
 Calls.Name_function_global I.ok.kind hg (Calls.loadGlobal_global (by rw [I.ok.glob]; exact I.mod.glob.keeps I.bk) hm h) hd
theorem hqH {E : Value -> Shared -> Prop} {pins : List (Addr × Obj)} {s : Shared} {σ : St} {H : Hp} {x : Str} {u : Value} {pos : Pos} {Q : Value -> Shared -> Prop} (I : Inv X pins σ H s) (hg : Gl X x) (hm : X.mg x = none) (hv : bootBuiltins x = some u) (h : Q u s)
  (hn : x ≠ "__name__" := by decide) (hd : (x == ("__debug__" : Str)) = false := by decide) : wpAny (model X.prog X.w) X.A (eval (.Name x pos) X.env) Q E s := by
 obtain ⟨mb,h1,h2⟩ := I.mod.blt
 exact Calls.Name_function_global I.ok.kind hg (Calls.loadGlobal_builtin (by rw [I.ok.glob]; exact I.mod.glob.keeps I.bk) hm (by rw [I.ok.blt]; exact h1.keeps I.bk) ((h2 x hn).trans hv) h) hd
theorem aqW {x : Str} {v : V} {u : Value} {pos : Pos} (hg : Gl X x) (hm : X.mg x = some u) (r : RelV v u) (hd : (x == ("__debug__" : Str)) = false := by decide) : PE X (.Name x pos) (tC v) :=
 fun _ _ _ H _ I h=>iqn I hg hm ⟨v,H,I,r,h⟩ hd
theorem dqs {x : Str} {v : V} {u : Value} {pos : Pos} (hg : Gl X x) (hm : X.mg x = none) (hv : bootBuiltins x = some u) (r : RelV v u) (hn : x ≠ "__name__" := by decide) (hd : (x == ("__debug__" : Str)) = false := by decide) : PE X (.Name x pos) (tC v) :=
 fun _ _ _ H _ I h=>hqH I hg hm hv ⟨v,H,I,r,h⟩ hn hd
variable {a b : Expr} {ta tb : TE} {pos : Pos}
def PC (X : Cx) (op : CmpOp) (a b : Expr) (t : TE) : Prop :=
 ∀ (pins : List (Addr × Obj)) (s : Shared) (σ : St) (H : Hp) (Q : VK),Inv X pins σ H s -> t σ H Q ->
  wpAny (model X.prog X.w) X.A (eval a X.env) (fun v s₁=>wpAny (model X.prog X.w) X.A (eval b X.env) (fun u s₂=>wpAny (model X.prog X.w) X.A (compareOp op v u) (EP X pins σ Q) X.xe s₂) X.xe s₁) X.xe s
def tB (t : TE) : TT := fun σ H Q=>t σ H fun x H1=>∃ c,x = .bl c /\ Q c H1
theorem tqI {op : CmpOp} {t : TE} (h : PC X op a b t) (h1 : behindInMarks op b = false := by first | exact nobehind _ (by decide) (by decide) | rfl) : PT X (.Compare a [op] [b] pos) (tB t) := by
 intro pins s σ H Q I hw
 refine wpAny_isTrue_Compare1 (thn (h pins s σ H _ I hw) fun v s1 h1=>thn h1 fun u s2 h2=>thn h2 fun c s3 W' => ?_) h1
 obtain ⟨x,H1,I1,r1,q1⟩ := W'
 obtain ⟨d,rfl,q⟩ := q1
 cases r1
 exact wpAny_truthy_bool ⟨H1,I1,q⟩
theorem bqc {e : Expr} {t : TE} (h : PE X e t) (he : ∀ whole,isTrue e X.env whole = (do let v <- whole; standAt e.pos; holding [v] (truthy v)) := by intro _; rfl) : PT X e (tB t) := by
 intro pins s σ H Q I hw
 refine isTrue_plain (thn (h pins s σ H _ I hw) fun v s1 W' => ?_) (he _)
 obtain ⟨x,H1,I1,r1,q1⟩ := W'
 obtain ⟨d,rfl,q⟩ := q1
 cases r1
 exact wpAny_truthy_bool ⟨H1,I1,q⟩
variable {tA tB' : TT} {rest : List Expr}
def tAnd (t u : TT) : TT := fun σ H Q=>t σ H fun c H1=>if c = true then u σ H1 Q else Q false H1
def tOr (t u : TT) : TT := fun σ H Q=>t σ H fun c H1=>if c = true then Q true H1 else u σ H1 Q
def tNot (t : TT) : TT := fun σ H Q=>t σ H fun c H1=>Q (!c) H1
theorem gqy (ha : PT X a tA) : PW X (.BoolOp .And [a] pos) tA := by
 intro wh pins s σ H Q I h
 refine isTrue_and (thn (ha pins s σ H Q I h) fun c s1 e=>?_)
 cases c with
 | true=>exact isTrue_and_nil e
 | false=>exact e
theorem cq4 (ha : PT X a tA) : PW X (.BoolOp .Or [a] pos) tA := by
 intro wh pins s σ H Q I h
 refine isTrue_or (thn (ha pins s σ H Q I h) fun c s1 e=>?_)
 cases c with
 | false=>exact isTrue_or_nil e
 | true=>exact e
theorem jqc (ha : PT X a tA) (hb : PW X (.BoolOp .And (b :: rest) pos) tB') : PW X (.BoolOp .And (a :: b :: rest) pos) (tAnd tA tB') := by
 intro wh pins s σ H Q I h
 refine isTrue_and (thn (ha pins s σ H _ I h) fun c s1 W' => ?_)
 obtain ⟨H1,I1,q1⟩ := W'
 cases c with
 | true=>exact hb wh pins s1 σ H1 Q I1 q1
 | false=>exact ⟨H1,I1,q1⟩
theorem eqn (ha : PT X a tA) (hb : PW X (.BoolOp .Or (b :: rest) pos) tB') : PW X (.BoolOp .Or (a :: b :: rest) pos) (tOr tA tB') := by
 intro wh pins s σ H Q I h
 refine isTrue_or (thn (ha pins s σ H _ I h) fun c s1 W' => ?_)
 obtain ⟨H1,I1,q1⟩ := W'
 cases c with
 | true=>exact ⟨H1,I1,q1⟩
 | false=>exact hb wh pins s1 σ H1 Q I1 q1
theorem bqG (ha : PT X a tA) : PT X (.UnaryOp .Not a pos) (tNot tA) := by
 intro pins s σ H Q I h
 exact isTrue_not (ha pins s σ H (fun c H1=>Q (!c) H1) I h)
def tAndV (ta tb : TE) : TE := fun σ H Q=>ta σ H fun x H1=>∃ c,x = .bl c /\ if c = true then tb σ H1 Q else Q (.bl false) H1
def tOrV (ta tb : TE) : TE := fun σ H Q=>ta σ H fun x H1=>∃ c,x = .bl c /\ if c = true then Q (.bl true) H1 else tb σ H1 Q
def tNotV (ta : TE) : TE := fun σ H Q=>ta σ H fun x H1=>∃ c,x = .bl c /\ Q (.bl (!c)) H1
theorem bqZ {op} {t : TE} (h : PE X a t) : PE X (.BoolOp op [a] pos) t := fun pins s σ H Q I hw=>BoolOp_one (h pins s σ H Q I hw)
theorem cq5 (ha : PE X a ta) (hb : PE X (.BoolOp .And (b :: rest) pos) tb) : PE X (.BoolOp .And (a :: b :: rest) pos) (tAndV ta tb) := by
 intro pins s σ H Q I h
 refine BoolOp_and (thn (ha pins s σ H _ I h) fun v s1 W' => ?_)
 obtain ⟨x,H1,I1,r1,q1⟩ := W'
 obtain ⟨c,rfl,q1⟩ := q1
 cases r1
 refine wpAny_truthy_bool ?_
 cases c with
 | true=>exact hb pins s1 σ H1 Q I1 q1
 | false=>exact ⟨.bl false,H1,I1,rfl,q1⟩
theorem oqw (ha : PE X a ta) (hb : PE X (.BoolOp .Or (b :: rest) pos) tb) : PE X (.BoolOp .Or (a :: b :: rest) pos) (tOrV ta tb) := by
 intro pins s σ H Q I h
 refine BoolOp_or (thn (ha pins s σ H _ I h) fun v s1 W' => ?_)
 obtain ⟨x,H1,I1,r1,q1⟩ := W'
 obtain ⟨c,rfl,q1⟩ := q1
 cases r1
 refine wpAny_truthy_bool ?_
 cases c with
 | false=>exact hb pins s1 σ H1 Q I1 q1
 | true=>exact ⟨.bl true,H1,I1,rfl,q1⟩
theorem lq7 (ha : PE X a ta) : PE X (.UnaryOp .Not a pos) (tNotV ta) := by
 intro pins s σ H Q I h
 refine UnaryOp_ (thn (ha pins s σ H _ I h) fun v s1 W' => ?_)
 obtain ⟨x,H1,I1,r1,q1⟩ := W'
 obtain ⟨c,rfl,q1⟩ := q1
 cases r1
 exact not_of (wpAny_truthy_bool ⟨.bl (!c),H1,I1,rfl,q1⟩)
def tIf (t : TT) (ta tb : TE) : TE := fun σ H Q=>t σ H fun c H1=>if c = true then ta σ H1 Q else tb σ H1 Q
theorem gqc {c : Expr} (hc : PT X c tA) (ha : PE X a ta) (hb : PE X b tb) : PE X (.IfExp c a b pos) (tIf tA ta tb) := by
 intro pins s σ H Q I h
 refine wpAny_IfExp (thn (hc pins s σ H _ I h) fun d s1 W' => ?_)
 obtain ⟨H1,I1,q1⟩ := W'
 cases d with
 | true=>exact ha pins s1 σ H1 Q I1 q1
 | false=>exact hb pins s1 σ H1 Q I1 q1
end
def SqL (K : PySem.W.Frag) (H : Hp) (a : Addr) (xs : List V) : Prop :=
 Rd H a (.lst xs) \/
  ∃ (o : Obj) (its : Array Value) (n : Nat),K.lookup a = some o /\ o.cls = .type "list" /\ o.dict = none /\ o.data = .seq its n /\ its.size <= sizeLine /\ Vals xs its.toList
def SqT (K : PySem.W.Frag) (H : Hp) (a : Addr) (xs : List V) : Prop :=
 Rd H a (.tup xs) \/
  ∃ (o : Obj) (its : Array Value) (n : Nat),K.lookup a = some o /\ o.cls = .type "tuple" /\ o.data = .seq its n /\ its.size <= sizeLine /\ Vals xs its.toList
def absV : Value -> Option V
 | .none=>some .non
 | .bool b=>some (.bl b)
 | .int i _=>some (.int i)
 | .str x _=>some (.str x)
 | .bytes b _=>some (.byt b)
 | .float b _=>some (.flt b)
 | .ref a=>some (.ref a)
 | .type n=>some (.ty n)
 | _=>none
theorem RelV.abs {x : V} {u : Value} (r : RelV x u) : absV u = some x := by
 cases x with
 | non=>cases r; rfl
 | bl _=>cases r; rfl
 | int _=>obtain ⟨t,rfl⟩ := r; rfl
 | str _=>obtain ⟨t,rfl⟩ := r; rfl
 | byt _=>obtain ⟨t,rfl⟩ := r; rfl
 | flt _=>obtain ⟨t,rfl⟩ := r; rfl
 | ref _=>cases r; rfl
 | ty _=>cases r; rfl
theorem RelV.inj {x y : V} {u : Value} (r : RelV x u) (q : RelV y u) : x = y := Option.some.inj (r.abs.symm.trans q.abs)
theorem Vals.inj : ∀ {xs ys : List V} {us : List Value},Vals xs us -> Vals ys us -> xs = ys
 | _,_,_,.nil,.nil=>rfl
 | _,_,_,.cons r t,.cons r' t' => by rw [r.inj r',Vals.inj t t']
section
variable {X : Cx} {pins : List (Addr × Obj)} {σ : St} {H : Hp} {s : Shared} {a : Addr} {xs ys : List V}
theorem SqL.of {K : PySem.W.Frag} (h : H a = some (.lst xs)) : SqL K H a xs := .inl (.inl h)
theorem SqT.of {K : PySem.W.Frag} (h : H a = some (.tup xs)) : SqT K H a xs := .inl (.inl h)
theorem Inv.list (I : Inv X pins σ H s) (h : SqL X.K H a xs) : ∃ its : List Value,Vals xs its /\ PlainL s.heap a its.toArray /\ xs.length <= sizeLine := by
 rcases h with h | ⟨o,its,n,hk,hc,hd,hs,hz,r⟩
 ·obtain ⟨z,its,n,r,e⟩ := h.ok I.hok
  exact ⟨its,r,⟨_,n,e,rfl,rfl,rfl⟩,z⟩
 ·refine ⟨its.toList,r,⟨o,n,I.kIn a o hk,hc,hd,by simpa using hs⟩,?_⟩
  have e := r.length
  simp only [Array.length_toList] at e
  omega
theorem Inv.tuple (I : Inv X pins σ H s) (h : SqT X.K H a xs) : ∃ its : List Value,Vals xs its /\ IsTup s.heap a its.toArray /\ xs.length <= sizeLine := by
 rcases h with h | ⟨o,its,n,hk,hc,hs,hz,r⟩
 ·obtain ⟨z,its,r,p⟩ := h.ok I.hok
  exact ⟨its,r,p,z⟩
 ·refine ⟨its.toList,r,⟨o,I.kIn a o hk,hc,n,by simpa using hs⟩,?_⟩
  have e := r.length
  simp only [Array.length_toList] at e
  omega
theorem Inv.list_inj (I : Inv X pins σ H s) (h : SqL X.K H a xs) (h' : SqL X.K H a ys) : xs = ys := by
 obtain ⟨its,r,⟨o,n,e,_,_,d⟩,_⟩ := I.list h
 obtain ⟨its',r',⟨o',n',e',_,_,d'⟩,_⟩ := I.list h'
 rw [e] at e'; cases e'
 rw [d] at d'
 injection d' with d1 _
 have : its = its' := by simpa using congrArg Array.toList d1
 subst this
 exact r.inj r'
theorem Inv.tuple_inj (I : Inv X pins σ H s) (h : SqT X.K H a xs) (h' : SqT X.K H a ys) : xs = ys := by
 obtain ⟨its,r,⟨o,e,_,n,d⟩,_⟩ := I.tuple h
 obtain ⟨its',r',⟨o',e',_,n',d'⟩,_⟩ := I.tuple h'
 rw [e] at e'; cases e'
 rw [d] at d'
 injection d' with d1 _
 have : its = its' := by simpa using congrArg Array.toList d1
 subst this
 exact r.inj r'
end
abbrev Cx.wish (X : Cx) (E : Value -> Shared -> Prop) : Cx := { X with xe := E }
abbrev Cx.nox (X : Cx) : Cx := X.wish fun _ _=>False
theorem Cx.Ok.wish {X : Cx} (ok : X.Ok) (E : Value -> Shared -> Prop) : (X.wish E).Ok :=
 ⟨ok.mod,ok.kind,ok.glob,ok.blt,ok.above,ok.inj,ok.has,ok.cab,ok.hd,ok.frames,ok.stk,ok.exf,ok.bs,ok.bsz,ok.noex,ok.exfs,ok.funs,ok.frf⟩
theorem Cx.Ok.unwish {X : Cx} {E : Value -> Shared -> Prop} (ok : (X.wish E).Ok) : X.Ok :=
 ⟨ok.mod,ok.kind,ok.glob,ok.blt,ok.above,ok.inj,ok.has,ok.cab,ok.hd,ok.frames,ok.stk,ok.exf,ok.bs,ok.bsz,ok.noex,ok.exfs,ok.funs,ok.frf⟩
section
variable {X : Cx} {pins : List (Addr × Obj)} {σ : St} {H : Hp} {s : Shared} {E : Value -> Shared -> Prop}
theorem Inv.wish (I : Inv X pins σ H s) (E : Value -> Shared -> Prop) : Inv (X.wish E) pins σ H s := ⟨I.ok.wish E,I.os,I.bare,I.base,I.loc,I.cell,I.free,I.freeC,I.pin,I.hok,I.len⟩
theorem Inv.unwish (I : Inv (X.wish E) pins σ H s) : Inv X pins σ H s := ⟨I.ok.unwish,I.os,I.bare,I.base,I.loc,I.cell,I.free,I.freeC,I.pin,I.hok,I.len⟩
theorem SP.unwish {D : Ends} {f : Flow} {s' : Shared} (h : SP (X.wish E) pins D f s') : SP X pins D f s' := by
 cases f with
 | next=>obtain ⟨σ',H',I,q⟩ := h; exact ⟨σ',H',I.unwish,q⟩
 | brk=>obtain ⟨σ',H',I,q⟩ := h; exact ⟨σ',H',I.unwish,q⟩
 | cont=>obtain ⟨σ',H',I,q⟩ := h; exact ⟨σ',H',I.unwish,q⟩
 | ret u=>obtain ⟨v,σ',H',I,r,q⟩ := h; exact ⟨v,σ',H',I.unwish,r,q⟩
theorem PSs.nox {st : List Stmt} {t : TS} (h : PSs X.nox st t) : PSs X st t := fun pins s σ H D I hw =>
 wpAny_mono (h pins s σ H D (I.wish _) hw) (fun _ _ q=>q.unwish) fun _ _ z=>False.elim z
end
section
variable {X : Cx} {st : Stmt} {rest : List Stmt} {t u : TS} {e : Expr} {te : TE} {pos : Pos}
def tNext : TS := fun D σ H=>D.nx σ H
def tSeq (t u : TS) : TS := fun D σ H=>t { D with nx := u D } σ H
theorem aqu : PSs X [] tNext := fun _ _ σ H _ I h=>wpAny_execs_nil ⟨σ,H,I,h⟩
theorem aqh (h1 : PS X st t) (h2 : PSs X rest u) : PSs X (st :: rest) (tSeq t u) := by
 intro pins s σ H D I h
 refine wpAny_execs_cons (thn (h1 pins s σ H { D with nx := u D } I h) fun f s1 q=>?_)
 cases f with
 | next =>
  obtain ⟨σ',H',I',q⟩ := q
  exact h2 pins s1 σ' H' D I' q
 | ret v=>exact q
 | brk=>exact q
 | cont=>exact q
theorem aqf (h1 : PS X st t) : PSs X [st] t := by
 intro pins s σ H D I h
 refine wpAny_execs_cons (thn (h1 pins s σ H D I h) fun f s1 q=>?_)
 cases f with
 | next=>exact wpAny_execs_nil q
 | ret v=>exact q
 | brk=>exact q
 | cont=>exact q
def tBreak : TS := fun D σ H=>D.bk σ H
theorem Inv.quiet {pins : List (Addr × Obj)} {σ : St} {H : Hp} {s : Shared} (I : Inv X pins σ H s) : interactive X.env = false := by simp [interactive,I.ok.kind]
def tDrop (te : TE) : TS := fun D σ H=>te σ H fun _ H1=>D.nx σ H1
theorem cqh (he : PE X e te) (hs : swapsWith e none pos.line X.env = pure false := by rfl) : PS X (.Expr e pos) (tDrop te) := by
 intro pins s σ H D I h
 exact wpAny_Expr_any (thn (he pins s σ H _ I h) fun v s1 ⟨x,H1,I1,r1,q1⟩=>⟨σ,H1,I1,q1⟩) I.quiet hs
def tRet (te : TE) : TS := fun D σ H=>te σ H D.rt
theorem aqn (he : PE X e te) : PS X (.Return (some e) pos) (tRet te) := by
 intro pins s σ H D I h
 exact wpAny_Return_some (thn (he pins s σ H _ I h) fun v s1 ⟨x,H1,I1,r1,q1⟩=>⟨x,σ,H1,I1,r1,q1⟩)
def tIfS (c : TT) (t u : TS) : TS := fun D σ H=>c σ H fun b H1=>if b = true then t D σ H1 else u D σ H1
theorem aqB {c : Expr} {a b : List Stmt} {tc : TT} (hc : PT X c tc) (ha : PSs X a t) (hb : PSs X b u) : PS X (.If c a b pos) (tIfS tc t u) := by
 intro pins s σ H D I h
 refine wpAny_If (thn (hc pins s σ H _ I h) fun d s1 W' => ?_)
 obtain ⟨H1,I1,q1⟩ := W'
 cases d with
 | true=>exact ha pins s1 σ H1 D I1 q1
 | false=>exact hb pins s1 σ H1 D I1 q1
def tNever : TS := fun _ _ _=>False
end
abbrev TG := V -> St -> Hp -> (St -> Hp -> Prop) -> Prop
abbrev TGs := List V -> St -> Hp -> (St -> Hp -> Prop) -> Prop
def PG (X : Cx) (target : Expr) (t : TG) : Prop :=
 ∀ (pins : List (Addr × Obj)) (s : Shared) (σ : St) (H : Hp) (v : V) (u : Value) (Q : St -> Hp -> Prop),Inv X pins σ H s -> RelV v u -> t v σ H Q ->
  wpAny (model X.prog X.w) X.A (assign target X.env u) (fun _ s' => ∃ σ' H',Inv X pins σ' H' s' /\ Q σ' H') X.xe s
def PGs (X : Cx) (ts : List Expr) (t : TGs) : Prop :=
 ∀ (pins : List (Addr × Obj)) (s : Shared) (σ : St) (H : Hp) (vs : List V) (us : List Value) (Q : St -> Hp -> Prop),Inv X pins σ H s -> Vals vs us -> t vs σ H Q ->
  wpAny (model X.prog X.w) X.A (assignInOrder ((assignEach ts X.env).map (·.2)) us) (fun _ s' => ∃ σ' H',Inv X pins σ' H' s' /\ Q σ' H') X.xe s
abbrev TSet := V -> V -> V -> Hp -> (Hp -> Prop) -> Prop
section
variable {X : Cx} {pos : Pos}
def gName (i : Nat) : TG := fun v σ H Q=>Q (σ.set i (some v)) H
theorem aqF {i : Nat} {x : Str} (hN : X.N.Nodup) (hi : X.N[i]? = some x) (hx : Loc X.env.scope x) (hf : X.fn x = true \/ X.env.scope.names.lookup x = some .local := by first | exact .inl rfl | exact .inr rfl | assumption) : PG X (.Name x pos) (gName i) := by
 intro pins s σ H v u Q I r h
 exact wpAny_assign_Name (mqk I hN hi hx r (fun s' I' => ⟨_,H,I',h⟩) hf)
def gNil : TGs := fun vs σ H Q=>vs = [] /\ Q σ H
def gCons (t : TG) (u : TGs) : TGs := fun vs σ H Q=>∃ v r,vs = v :: r /\ t v σ H fun σ' H' => u r σ' H' Q
theorem fqB : PGs X [] gNil := by
 intro pins s σ H vs us Q I r h
 obtain ⟨e,h⟩ := h
 subst e
 cases r
 exact assignInOrder_nil ⟨σ,H,I,h⟩
theorem aq0 {e : Expr} {es : List Expr} {t : TG} {u : TGs} (h1 : PG X e t) (h2 : PGs X es u)
  (hs : (assignEach (e :: es) X.env).map (·.2) = assign e X.env :: (assignEach es X.env).map (·.2) := by rfl) : PGs X (e :: es) (gCons t u) := by
 intro pins s σ H vs us Q I r h
 obtain ⟨v,vr,e1,h⟩ := h
 subst e1
 cases r with
 | cons r rr =>
  rw [hs]
  refine assignInOrder_cons (thn (h1 pins s σ H _ _ _ I r h) fun _ s1 W' => ?_)
  obtain ⟨σ1,H1,I1,q1⟩ := W'
  exact h2 pins s1 σ1 H1 _ _ Q I1 rr q1
def gTup (K : PySem.W.Frag) (n : Nat) (t : TGs) : TG := fun v σ H Q=>∃ a xs,v = .ref a /\ SqT K H a xs /\ xs.length = n /\ t xs σ H Q
theorem qqi {es : List Expr} {k : Nat} {t : TGs} {n : Nat} (hc : X.calm = true) (h : PGs X es t)
  (hn : (assignEach es X.env).length = n := by rfl) (hst : (assignEach es X.env).findIdx? (·.1) = none := by rfl) : PG X (.Tuple es k pos) (gTup X.K n t) := by
 intro pins s σ H v u Q I r hw
 obtain ⟨a,xs,e1,hq,hl,hw⟩ := hw
 subst e1
 cases r
 obtain ⟨its,rv,ht,hz⟩ := I.tuple hq
 refine assign_Tuple_tuple (I.ok.hd hc) ht (by simp [hn,<- hl,rv.length]) hst fun h' hx=>?_
 have I1 : Inv X pins σ H { s with heap := h' } := I.kept (t' := s.toks) fun b o e=>hx b o (Nat.ne_of_lt (Heap.lt_size e)) e
 exact h pins _ σ H xs _ Q I1 (by simpa using rv) hw
def gSub (to ti : TE) (t : TSet) : TG := fun v σ H Q=>to σ H fun o H1=>ti σ H1 fun i H2=>t o i v H2 fun H3=>Q σ H3
def tAsg (te : TE) (g : TG) : TS := fun D σ H=>te σ H fun x H1=>g x σ H1 D.nx
theorem sqn {tg e : Expr} {te : TE} {g : TG} (he : PE X e te) (hg : PG X tg g) (hs : swapsWithSole [tg] e pos.line X.env = pure false := by rfl) (hw : swappedStores [tg] e X.env = pure none := by rfl)
  (h1 : (assignEach [tg] X.env).map (·.2) = [assign tg X.env] := by rfl) : PS X (.Assign [tg] e pos) (tAsg te g) := by
 intro pins s σ H D I h
 refine wpAny_Assign_stores (thn (he pins s σ H _ I h) fun v s1 W' => ?_) hs hw
 obtain ⟨x,H1,I1,r1,q1⟩ := W'
 rw [h1]
 exact thn (hg pins s1 σ H1 x v _ I1 r1 q1) fun _ s2 q=>q
theorem aqx {i : Nat} {x : Str} {e : Expr} {te : TE} {pos' : Pos} (hN : X.N.Nodup) (hi : X.N[i]? = some x) (hx : Loc X.env.scope x) (he : PE X e te) (hs : swapsWith e (some (.Name x pos')) pos.line X.env = pure false := by rfl) (hf : X.fn x = true \/ X.env.scope.names.lookup x = some .local := by first | exact .inl rfl | exact .inr rfl | assumption) :
  PS X (.Assign [.Name x pos'] e pos) (tAsg te (gName i)) := by
 intro pins s σ H D I h
 refine wpAny_Assign_Name (thn (he pins s σ H _ I h) fun v s1 W' => ?_) hs
 obtain ⟨y,H1,I1,r1,q1⟩ := W'
 exact mqk I1 hN hi hx r1 (fun s2 I2=>⟨_,H1,I2,q1⟩) hf
def tPar (i j : Nat) (ta : TA) : TS := fun D σ H=>ta σ H fun vs H1=>∃ v w,vs = [v,w] /\ D.nx ((σ.set i (some v)).set j (some w)) H1
end
section
variable {X : Cx} {pos : Pos}
def tWhile (c : TT) (tb : TS) : TS := fun D σ H=>∃ W : Nat -> St -> Hp -> Prop,(∃ m,W m σ H) /\ ∀ m σ H,W m σ H ->
 c σ H fun b H1=>if b = true then ∃ N : St -> Hp -> Prop,(∀ σ' H',N σ' H' -> ∃ m',m' < m /\ W m' σ' H') /\ tb { D with nx := N,ct := N,bk := D.nx } σ H1 else D.nx σ H1
theorem pqp {c : Expr} {body : List Stmt} {tc : TT} {tb : TS} (hp : PassesOwn (model X.prog X.w) X.A X.env X.xe) (hc : PT X c tc) (hb : PSs X body tb) : PS X (.While c body [] pos) (tWhile tc tb) := by
 intro pins s σ H D I h
 obtain ⟨W,⟨m0,w0⟩,turn⟩ := h
 refine wpAny_While (codeAny_whileLoop (fun n s' => ∃ σ' H',Inv X pins σ' H' s' /\ W n σ' H') ?_ m0 ⟨σ,H,I,w0⟩)
 rintro n s1 ⟨σ1,H1,I1,w1⟩
 refine wpAny_passesOwn hp (thn (hc pins s1 σ1 H1 _ I1 (turn n σ1 H1 w1)) fun b s2 W' => ?_)
 obtain ⟨H2,I2,q2⟩ := W'
 cases b with
 | true =>
  obtain ⟨N,hN,q2⟩ := q2
  rw [if_pos rfl]
  refine wpAny_passesOwn hp (thn (hb pins s2 σ1 H2 _ I2 q2) fun f s3 q3=>?_)
  cases f with
  | next =>
   obtain ⟨σ3,H3,I3,n3⟩ := q3
   obtain ⟨m',hm,w3⟩ := hN σ3 H3 n3
   exact ⟨m',hm,σ3,H3,I3,w3⟩
  | cont =>
   obtain ⟨σ3,H3,I3,n3⟩ := q3
   obtain ⟨m',hm,w3⟩ := hN σ3 H3 n3
   exact ⟨m',hm,σ3,H3,I3,w3⟩
  | brk=>exact q3
  | ret v=>exact q3
 | false =>
  rw [if_neg Bool.false_ne_true]
  exact wpAny_execs_nil ⟨σ1,H2,I2,q2⟩
end
structure It where
 go : Nat -> Hp -> Prop
 yld : Nat -> Hp -> V -> Hp -> Prop
 stop : Nat -> Hp -> Prop
def FpOk (X : Cx) (pins : List (Addr × Obj)) (H : Hp) (b : Addr) : Prop :=
 H b = none /\ b ≠ X.env.locals /\ b ∉ X.fs /\ (b ∈ X.ex \/ X.s₀.heap.objs.size <= b) /\ (∀ x c,X.env.cells.lookup x = some c -> c ≠ b) /\ ∀ p ∈ X.pn ++ pins,p.1 ≠ b
theorem Inv.fpOk {X : Cx} {pins : List (Addr × Obj)} {σ : St} {H H' : Hp} {s : Shared} {b : Addr} (I : Inv X pins σ H s) (hb : s.heap.objs.size <= b) (hn : H' b = none) : FpOk X pins H' b := by
 refine ⟨hn,Nat.ne_of_gt (Nat.lt_of_lt_of_le I.lt hb),I.nofs hb,.inr (Nat.le_trans I.sz hb),fun x c e z=>?_,fun p hp z=>?_⟩
 ·obtain ⟨v,q⟩ := I.cell x c e
  exact absurd (Nat.lt_of_lt_of_le q.lt (by rw [z]; exact hb)) (Nat.lt_irrefl _)
 ·exact absurd (Nat.lt_of_lt_of_le (Heap.lt_size (I.pin p hp).1) (by rw [z]; exact hb)) (Nat.lt_irrefl _)
structure Turn (P : Program) (w : World) (K : PySem.W.Frag) (tg : Expr) (J : It) (fp : List Addr) (it : Addr) (tn : Nat -> Heap -> Prop) : Prop where
 mem : it ∈ fp
 obj : ∀ i h,tn i h -> ∀ b ∈ fp,∃ o,h.get? b = some o /\ ∀ v,o.data ≠ .cell v
 keep : ∀ i h h',tn i h -> (∀ b ∈ fp,∀ o,h.get? b = some o -> h'.get? b = some o) -> tn i h'
 item : ∀ (X : Cx),X.prog = P -> X.w = w -> X.K = K -> X.calm = true -> ∀ (i : Nat) (pins : List (Addr × Obj)) (s : Shared) (σ : St) (H : Hp) (E : Value -> Shared -> Prop),Inv X pins σ H s -> (∀ b ∈ fp,FpOk X pins H b) -> tn i s.heap -> J.go i H ->
  wpAny (model P w) X.A (pyNext (.ref it)) (fun r s1=>∃ u,r = some u /\
   wpAny (model P w) X.A (letOwnedTupleGo tg (.ref it) u) (fun _ s2=>∃ x H',Inv X pins σ H' s2 /\ RelV x u /\ J.yld i H x H' /\ tn (i + 1) s2.heap /\ ∀ b ∈ fp,H' b = none) E s1) E s
 done : ∀ (X : Cx),X.prog = P -> X.w = w -> X.K = K -> X.calm = true -> ∀ (i : Nat) (pins : List (Addr × Obj)) (s : Shared) (σ : St) (H : Hp) (E : Value -> Shared -> Prop),Inv X pins σ H s -> (∀ b ∈ fp,FpOk X pins H b) -> tn i s.heap -> J.stop i H ->
  wpAny (model P w) X.A (pyNext (.ref it)) (fun r s1=>r = none /\ Inv X pins σ H s1) E s
 self : ∀ (A : Around) (i : Nat) (s : Shared) (Q : Value -> Shared -> Prop) (E : Value -> Shared -> Prop),tn i s.heap -> Q (.ref it) s -> wpAny (model P w) A (pyIter (.ref it)) Q E s
abbrev TI := St -> Hp -> (It -> Hp -> Prop) -> Prop
def PIE (X : Cx) (pins : List (Addr × Obj)) (σ : St) (tg : Expr) (R : It -> Hp -> Prop) (itv : Value) (s2 : Shared) : Prop :=
 ∃ (it : Addr) (fp : List Addr) (tn : Nat -> Heap -> Prop) (J : It) (H' : Hp),itv = .ref it /\ Inv X pins σ H' s2 /\ Turn X.prog X.w X.K tg J fp it tn /\ tn 0 s2.heap /\ (∀ b ∈ fp,FpOk X pins H' b) /\ R J H'
def PI (X : Cx) (tg iter : Expr) (wi : TI) : Prop :=
 ∀ (pins : List (Addr × Obj)) (s : Shared) (σ : St) (H : Hp) (R : It -> Hp -> Prop),Inv X pins σ H s -> wi σ H R ->
  wpAny (model X.prog X.w) X.A (eval iter X.env) (fun v s1=>wpAny (model X.prog X.w) X.A (pyIter v) (PIE X pins σ tg R) X.xe s1) X.xe s
theorem oqu {M : Model} {A : Around} {E : Value -> Shared -> Prop} {s : Shared} {tg : Expr} {it : Addr} {u : Value} {o : Obj} {n : String} {vs : Array Value} {Q : Unit -> Shared -> Prop} (ho : s.heap.get? it = some o) (hc : o.cls = .type n) (hd : o.data = .fields vs)
  (hn : ["enumerate", "zip", "dict_itemiterator", "dict_reverseitemiterator", "odict_iterator", "itertools.zip_longest", "itertools.pairwise"].contains n = false) (hQ : Q () s) : wpAny M A (letOwnedTupleGo tg (.ref it) u) Q E s := by
 unfold letOwnedTupleGo
 cases tg <;> first
  | exact wpAny_pure hQ
  | (cases u <;> first
    | exact wpAny_pure hQ
    | (refine wpAny_bind (wpAny_load ho ?_)
       rw [hc,hd]
       show wpAny M A (if (["enumerate", "zip", "dict_itemiterator", "dict_reverseitemiterator", "odict_iterator", "itertools.zip_longest", "itertools.pairwise"].contains n && vs[0]? == some (rawInt _)) = true then _ else _) Q E s
       rw [if_neg (by intro h; rw [hn,Bool.false_and] at h; cases h)]
       exact wpAny_pure hQ))
def Itl (K : PySem.W.Frag) (a : Addr) : It :=
 ⟨fun i H=>∃ xs x,SqL K H a xs /\ xs[i]? = some x,fun i H x H' => H' = H /\ ∀ xs,SqL K H a xs -> xs[i]? = some x,fun i H=>∃ xs,SqL K H a xs /\ xs.length <= i⟩
def Itt (K : PySem.W.Frag) (a : Addr) : It :=
 ⟨fun i H=>∃ xs x,SqT K H a xs /\ xs[i]? = some x,fun i H x H' => H' = H /\ ∀ xs,SqT K H a xs -> xs[i]? = some x,fun i H=>∃ xs,SqT K H a xs /\ xs.length <= i⟩
def Itr (lo : Int) (n : Nat) : It := ⟨fun i _=>i < n,fun i H x H' => H' = H /\ x = .int (lo + i),fun i _=>n <= i⟩
theorem oqd {P : Program} {w : World} {K : PySem.W.Frag} {tg : Expr} (a it : Addr) : Turn P w K tg (Itl K a) [it] it (fun i h=>h.IsListIter it a i) where
 mem := by simp
 obj := fun i h st b hb=>by
  have e : b = it := by simpa using hb
  subst e
  obtain ⟨o,e,c,d⟩ := st
  exact ⟨o,e,fun v z=>by rw [d] at z; cases z⟩
 keep := fun i h h' st k=>st.at fun o e=>k it (by simp) o e
 item := by
  intro X hP hw hK hc i pins s σ H E I hf st hg
  subst hP hw hK
  obtain ⟨xs,x,hq,hx⟩ := hg
  obtain ⟨its,rv,p,hz⟩ := I.list hq
  obtain ⟨u,hu,ru⟩ := rv.get hx
  obtain ⟨f0,f1,f2,f3,f4,f5⟩ := hf it (by simp)
  refine wpAny_pyNext_list_item st p.isList (x := u) (by simpa using hu) fun h' st' sb=>?_
  have I1 : Inv X pins σ H { s with heap := h' } := I.turned (t' := s.toks) (fun b o hb e=>(sb.2 b hb).trans e) f0 f1 f3 f4 f5
  obtain ⟨o,e,c,d⟩ := id st'
  exact ⟨u,rfl,oqu (s := { s with heap := h' }) e c d (by decide) ⟨x,H,I1,ru,⟨rfl,fun ys hy=>by rw [I.list_inj hy hq]; exact hx⟩,st',fun b hb=>(hf b hb).1⟩⟩
 done := by
  intro X hP hw hK hc i pins s σ H E I hf st hg
  subst hP hw hK
  obtain ⟨xs,hq,hx⟩ := hg
  obtain ⟨its,rv,p,hz⟩ := I.list hq
  obtain ⟨f0,f1,f2,f3,f4,f5⟩ := hf it (by simp)
  have hl := rv.length
  exact wpAny_pyNext_list_end (I.ok.hd hc) st p.isList (by simp; omega) fun h' eb=>⟨rfl,I.turned (t' := s.toks) (fun b o hb e=>eb b o hb e) f0 f1 f3 f4 f5⟩
 self := fun _ _ _ _ _ st h=>wpAny_pyIter_listiter st h
theorem mq4 {P : Program} {w : World} {K : PySem.W.Frag} {tg : Expr} (a it : Addr) : Turn P w K tg (Itt K a) [it] it (fun i h=>h.IsTupleIter it a i) where
 mem := by simp
 obj := fun i h st b hb=>by
  have e : b = it := by simpa using hb
  subst e
  obtain ⟨o,e,c,d⟩ := st
  exact ⟨o,e,fun v z=>by rw [d] at z; cases z⟩
 keep := fun i h h' st k=>st.at fun o e=>k it (by simp) o e
 item := by
  intro X hP hw hK hc i pins s σ H E I hf st hg
  subst hP hw hK
  obtain ⟨xs,x,hq,hx⟩ := hg
  obtain ⟨its,rv,p,hz⟩ := I.tuple hq
  obtain ⟨u,hu,ru⟩ := rv.get hx
  obtain ⟨f0,f1,f2,f3,f4,f5⟩ := hf it (by simp)
  refine wpAny_pyNext_tuple_item st (show s.heap.IsTuple a its.toArray from p) (x := u) (by simpa using hu) fun h' st' sb=>?_
  have I1 : Inv X pins σ H { s with heap := h' } := I.turned (t' := s.toks) (fun b o hb e=>(sb.2 b hb).trans e) f0 f1 f3 f4 f5
  obtain ⟨o,e,c,d⟩ := id st'
  exact ⟨u,rfl,oqu (s := { s with heap := h' }) e c d (by decide) ⟨x,H,I1,ru,⟨rfl,fun ys hy=>by rw [I.tuple_inj hy hq]; exact hx⟩,st',fun b hb=>(hf b hb).1⟩⟩
 done := by
  intro X hP hw hK hc i pins s σ H E I hf st hg
  subst hP hw hK
  obtain ⟨xs,hq,hx⟩ := hg
  obtain ⟨its,rv,p,hz⟩ := I.tuple hq
  obtain ⟨f0,f1,f2,f3,f4,f5⟩ := hf it (by simp)
  have hl := rv.length
  exact wpAny_pyNext_tuple_end (I.ok.hd hc) st (show s.heap.IsTuple a its.toArray from p) (by simp; omega) fun h' eb=>⟨rfl,I.turned (t' := s.toks) (fun b o hb e=>eb b o hb e) f0 f1 f3 f4 f5⟩
 self := fun _ _ _ _ _ st h=>wpAny_pyIter_tupleiter st h
theorem nqg {P : Program} {w : World} {K : PySem.W.Frag} {tg : Expr} (it : Addr) (lo : Int) (n : Nat) : Turn P w K tg (Itr lo n) [it] it (fun i h=>IsRangeIter h it (lo + (i : Nat) * 1) ((n : Int) - (i : Nat)) 1) where
 mem := by simp
 obj := fun i h st b hb=>by
  have e : b = it := by simpa using hb
  subst e
  exact ⟨_,st,fun v z=>by
   have z' : Data.fields _ = Data.cell v := z
   cases z'⟩
 keep := fun i h h' st k=>k it (by simp) _ st
 item := by
  intro X hP hw hK hc i pins s σ H E I hf st hg
  subst hP hw hK
  obtain ⟨f0,f1,f2,f3,f4,f5⟩ := hf it (by simp)
  have W := Walks.range (prog := X.prog) (w := X.w) (I.ok.hd hc) it lo 1 n
  refine W.item i s _ _ hg st fun v h' tk hv st' kk=>?_
  obtain ⟨t,rfl⟩ := hv
  have I1 : Inv X pins σ H { s with heap := h',toks := tk } := I.turned (fun b o hb e=>kk b o (by simpa using hb) e) f0 f1 f3 f4 f5
  refine ⟨_,rfl,oqu (s := { s with heap := h',toks := tk }) (n := "range_iterator") st' rfl rfl (by decide) ⟨.int (lo + i),H,I1,⟨t,?_⟩,⟨rfl,rfl⟩,st',fun b hb=>(hf b hb).1⟩⟩
  rw [Int.mul_one]
 done := by
  intro X hP hw hK hc i pins s σ H E I hf st hg
  subst hP hw hK
  obtain ⟨f0,f1,f2,f3,f4,f5⟩ := hf it (by simp)
  exact wpAny_pyNext_range_end (I.ok.hd hc) st (by have : n <= i := hg; omega) fun h' eb=>⟨rfl,I.turned (t' := s.toks) (fun b o hb e=>eb b o hb e) f0 f1 f3 f4 f5⟩
 self := fun _ _ _ _ _ st h=>wpAny_pyIter_rangeiter st h
section
variable {X : Cx} {tg : Expr}
def iList (K : PySem.W.Frag) (tl : TE) : TI := fun σ H R=>tl σ H fun x H1=>∃ a,x = .ref a /\ (∃ xs,SqL K H1 a xs) /\ R (Itl K a) H1
def iTup (K : PySem.W.Frag) (tl : TE) : TI := fun σ H R=>tl σ H fun x H1=>∃ a,x = .ref a /\ (∃ xs,SqT K H1 a xs) /\ R (Itt K a) H1
theorem rqq {l : Expr} {tl : TE} (hl : PE X l tl) : PI X tg l (iList X.K tl) := by
 intro pins s σ H R I h
 refine thn (hl pins s σ H _ I h) fun v s1 W' => ?_
 obtain ⟨x,H1,I1,r1,q1⟩ := W'
 obtain ⟨a,e,⟨xs,hq⟩,q⟩ := q1
 subst e
 cases r1
 obtain ⟨its,rv,p,hz⟩ := I1.list hq
 refine wpAny_pyIter_list p.isList ?_
 refine ⟨s1.heap.objs.size,[s1.heap.objs.size],_,_,H1,rfl,I1.kept (t' := s1.toks) fun b o e=>Heap.get?_push_of_some _ e,oqd a _,⟨_,Heap.get?_push_size _ rfl,rfl,rfl⟩,fun b hb=>?_,q⟩
 have e : b = s1.heap.objs.size := by simpa using hb
 subst e
 exact I1.fpOk (Nat.le_refl _) (I1.hok.fresh (Nat.le_refl _))
theorem sqA {l : Expr} {tl : TE} (hl : PE X l tl) : PI X tg l (iTup X.K tl) := by
 intro pins s σ H R I h
 refine thn (hl pins s σ H _ I h) fun v s1 W' => ?_
 obtain ⟨x,H1,I1,r1,q1⟩ := W'
 obtain ⟨a,e,⟨xs,hq⟩,q⟩ := q1
 subst e
 cases r1
 obtain ⟨its,rv,p,hz⟩ := I1.tuple hq
 refine wpAny_pyIter_tuple (show s1.heap.IsTuple a its.toArray from p) ?_
 refine ⟨s1.heap.objs.size,[s1.heap.objs.size],_,_,H1,rfl,I1.kept (t' := s1.toks) fun b o e=>Heap.get?_push_of_some _ e,mq4 a _,⟨_,Heap.get?_push_size _ rfl,rfl,rfl⟩,fun b hb=>?_,q⟩
 have e : b = s1.heap.objs.size := by simpa using hb
 subst e
 exact I1.fpOk (Nat.le_refl _) (I1.hok.fresh (Nat.le_refl _))
theorem pqe {pins : List (Addr × Obj)} {σ : St} {H : Hp} {s : Shared} {R : It -> Hp -> Prop} {E : Value -> Shared -> Prop} {lo hi : Int} {t u v : Tok} {tk : Nat} (I : Inv X pins σ H s) (h1 : -(2 ^ 62) <= lo) (h2 : lo < 2 ^ 62) (h3 : -(2 ^ 62) <= hi) (h4 : hi < 2 ^ 62)
  (q : R (Itr lo (hi - lo).toNat) H) : wpAny (model X.prog X.w) X.A (pyIter (.ref s.heap.objs.size)) (PIE X pins σ tg R) E { s with heap := s.heap.push { cls := .type "range", data := .fields #[.int lo t,.int hi u,.int 1 v] },toks := tk } := by
 refine wpAny_pyIter_range (IsRange.new ..) (small_one h1 h2 h3 h4) ?_
 have I1 : Inv X pins σ H { s with heap := s.heap.push { cls := .type "range", data := .fields #[.int lo t,.int hi u,.int 1 v] },toks := tk } := I.kept fun b o e=>Heap.get?_push_of_some _ e
 refine ⟨(s.heap.push { cls := .type "range", data := .fields #[.int lo t,.int hi u,.int 1 v] }).objs.size,[(s.heap.push { cls := .type "range", data := .fields #[.int lo t,.int hi u,.int 1 v] }).objs.size],_,_,H,rfl,
  I1.kept (t' := tk) fun b o e=>Heap.get?_push_of_some _ e,nqg _ lo (hi - lo).toNat,?_,fun b hb=>?_,q⟩
 ·have e1 : lo + ((0 : Nat) : Int) * 1 = lo := by simp
  have e2 : (((hi - lo).toNat : Nat) : Int) - ((0 : Nat) : Int) = Builtin.Range.rangeSize lo hi 1 := by rw [rangeSize_one]; split <;> omega
  show IsRangeIter _ _ (lo + ((0 : Nat) : Int) * 1) ((((hi - lo).toNat : Nat) : Int) - ((0 : Nat) : Int)) 1
  rw [e1,e2]
  exact Heap.get?_push_size _ rfl
 ·have e : b = (s.heap.push { cls := .type "range", data := .fields #[.int lo t,.int hi u,.int 1 v] }).objs.size := by simpa using hb
  subst e
  exact I1.fpOk (Nat.le_refl _) (I1.hok.fresh (Nat.le_refl _))
def iRng1 (ta : TA) : TI := fun σ H R=>ta σ H fun vs H1=>∃ j : Int,vs = [.int j] /\ -(2 ^ 62) <= j /\ j < 2 ^ 62 /\ R (Itr 0 j.toNat) H1
theorem bqs {a : Expr} {ta : TA} {p pos : Pos} (hg : Gl X "range") (hm : X.mg "range" = none) (ha : PA X [a] ta) (hs : starEach [a] X.env = [(false,eval a X.env)] := by rfl) : PI X tg (.Call (.Name "range" p) [a] [] pos) (iRng1 ta) := by
 intro pins s σ H R I h
 refine Call_ (hqH I hg hm boot_range (PyProof.Rows.callWith_type1 (thn (ha pos pins s σ H _ I h) fun us s1 W' => ?_) hs rfl))
 obtain ⟨vs,H1,I1,r1,q1⟩ := W'
 obtain ⟨j,e,q1,q2,q⟩ := q1
 subst e
 cases r1 with
 | cons r rr =>
  cases rr
  obtain ⟨t,rfl⟩ := r
  exact call_range_1 (pqe I1 (by omega) (by omega) q1 q2 (by simpa using q))
def tFor (wi : TI) (g : TG) (tb : TS) : TS := fun D σ H=>wi σ H fun J H1=>∃ W : Nat -> Nat -> St -> Hp -> Prop,(∃ m,W 0 m σ H1) /\ ∀ i m σ H,W i m σ H ->
 (J.stop i H /\ D.nx σ H) \/ (J.go i H /\ ∃ N : St -> Hp -> Prop,(∀ σ' H',N σ' H' -> ∃ m',m' < m /\ W (i + 1) m' σ' H') /\ ∀ x H',J.yld i H x H' -> g x σ H' fun σ2 H2=>tb { D with nx := N,ct := N,bk := D.nx } σ2 H2)
def pinsAt (fp : List Addr) (h : Heap) : List (Addr × Obj) := fp.filterMap fun b=>(h.get? b).map fun o=>(b,o)
theorem cqP {fp : List Addr} {h : Heap} {b : Addr} {o : Obj} (hb : b ∈ fp) (e : h.get? b = some o) : (b,o) ∈ pinsAt fp h := List.mem_filterMap.mpr ⟨b,hb,by rw [e]; rfl⟩
theorem oqj {fp : List Addr} {h : Heap} {p : Addr × Obj} (hp : p ∈ pinsAt fp h) : p.1 ∈ fp /\ h.get? p.1 = some p.2 := by
 obtain ⟨b,hb,e⟩ := List.mem_filterMap.mp hp
 cases q : h.get? b with
 | none=>rw [q] at e; cases e
 | some o =>
  rw [q] at e
  have e' : (b,o) = p := Option.some.inj e
  subst e'
  exact ⟨hb,q⟩
theorem Inv.pinned {pins : List (Addr × Obj)} {σ : St} {H : Hp} {s : Shared} {fp : List Addr} (I : Inv X pins σ H s) (hf : ∀ b ∈ fp,FpOk X pins H b) (ho : ∀ b ∈ fp,∃ o,s.heap.get? b = some o /\ ∀ v,o.data ≠ .cell v) : Inv X (pins ++ pinsAt fp s.heap) σ H s :=
 I.pins_of fun p hp=>(List.mem_append.mp hp).elim (fun z=>I.pin p (List.mem_append_right _ z)) fun z=>by
  obtain ⟨hb,e⟩ := oqj z
  obtain ⟨f0,f1,f2,_⟩ := hf p.1 hb
  obtain ⟨o,e',d⟩ := ho p.1 hb
  rw [e] at e'; cases e'
  exact ⟨e,f0,f1,f2,d⟩
theorem Inv.unpinned {pins pl : List (Addr × Obj)} {σ : St} {H : Hp} {s : Shared} (I : Inv X (pins ++ pl) σ H s) : Inv X pins σ H s := I.pins_of fun p hp=>I.pin p (List.mem_append_right _ (List.mem_append_left _ hp))
theorem cqW {iter : Expr} {body : List Stmt} {wi : TI} {g : TG} {tb : TS} {pos : Pos} (hp : PassesOwn (model X.prog X.w) X.A X.env X.xe) (hc : X.calm = true) (hi : PI X tg iter wi) (hg : PG X tg g) (hb : PSs X body tb)
  (hs : ∀ x,foldedSetIterable iter X.env x = pure x := by intro _; rfl) : PS X (.For tg iter body [] pos) (tFor wi g tb) := by
 intro pins s σ H D I h
 refine wpAny_For (thn (hi pins s σ H _ I h) fun v s1 h1=>thn h1 fun itv s2 h2=>?_) hs
 obtain ⟨it,fp,tn,J,H2,e,I2,T,st2,f2,W,⟨m0,w0⟩,turn⟩ := h2
 subst e
 have stat : ∀ {H' : Hp},(∀ b ∈ fp,H' b = none) -> ∀ b ∈ fp,FpOk X pins H' b := fun hn b hb=>⟨hn b hb,(f2 b hb).2⟩
 refine codeAny_forLoop_any (fun n s' => ∃ i σ' H',Inv X pins σ' H' s' /\ tn i s'.heap /\ (∀ b ∈ fp,H' b = none) /\ W i n σ' H') ?_ m0 ⟨0,σ,H2,I2,st2,fun b hb=>(f2 b hb).1,w0⟩
 rintro n s3 ⟨i,σ3,H3,I3,st3,fr3,w3⟩
 rcases turn i n σ3 H3 w3 with ⟨stop,qn⟩ | ⟨go,N,hN,step⟩
 ·refine wpAny_passesOwn hp (thn (T.done X rfl rfl rfl hc i pins s3 σ3 H3 X.xe I3 (stat fr3) st3 stop) fun r s4 W' => ?_)
  obtain ⟨hr,I4⟩ := W'
  subst hr
  exact wpAny_execs_nil ⟨σ3,H3,I4,qn⟩
 ·refine wpAny_passesOwn hp (thn (T.item X rfl rfl rfl hc i pins s3 σ3 H3 X.xe I3 (stat fr3) st3 go) fun r s4 W' => ?_)
  obtain ⟨u,hr,h4⟩ := W'
  subst hr
  refine wpAny_passesOwn hp (thn h4 fun _ s5 W' => ?_)
  obtain ⟨x,H5,I5,r5,y5,st5,fr5⟩ := W'
  have I5' := I5.pinned (stat fr5) (T.obj _ _ st5)
  refine wpAny_passesOwn hp (thn (hg _ s5 σ3 H5 x u _ I5' r5 (step x H5 y5)) fun _ s6 W' => ?_)
  obtain ⟨σ6,H6,I6,q6⟩ := W'
  refine wpAny_passesOwn hp (thn (hb _ s6 σ6 H6 _ I6 q6) fun f s7 q7=>?_)
  have again : ∀ {σ7 : St} {H7 : Hp},Inv X (pins ++ pinsAt fp s5.heap) σ7 H7 s7 -> N σ7 H7 -> ∃ m,m < n /\ ∃ i σ' H',Inv X pins σ' H' s7 /\ tn i s7.heap /\ (∀ b ∈ fp,H' b = none) /\ W i m σ' H' := fun {σ7 H7} I7 n7=>by
   obtain ⟨m',hm,w7⟩ := hN σ7 H7 n7
   refine ⟨m',hm,i + 1,σ7,H7,I7.unpinned,T.keep _ _ _ st5 fun b hb o e=>(I7.pin (b,o) (List.mem_append_right _ (List.mem_append_right _ (cqP hb e)))).1,fun b hb=>?_,w7⟩
   obtain ⟨o,e,d⟩ := T.obj _ _ st5 b hb
   exact (I7.pin (b,o) (List.mem_append_right _ (List.mem_append_right _ (cqP hb e)))).2.1
  cases f with
  | next=>obtain ⟨σ7,H7,I7,n7⟩ := q7; exact again I7 n7
  | cont=>obtain ⟨σ7,H7,I7,n7⟩ := q7; exact again I7 n7
  | brk=>obtain ⟨σ7,H7,I7,q7⟩ := q7; exact ⟨σ7,H7,I7.unpinned,q7⟩
  | ret v=>obtain ⟨x7,σ7,H7,I7,r7,q7⟩ := q7; exact ⟨x7,σ7,H7,I7.unpinned,r7,q7⟩
end
theorem pqP {K : PySem.W.Frag} {a : Addr} {xs : List V} {g : TG} {tb : TS} {D : Ends} {σ : St} {H : Hp} (Pv : Nat -> St -> Hp -> Prop) (h0 : Pv 0 σ H) (hl : ∀ i σ H,i <= xs.length -> Pv i σ H -> SqL K H a xs)
  (hs : ∀ i x σ H,xs[i]? = some x -> Pv i σ H -> g x σ H fun σ2 H2=>tb { D with nx := Pv (i + 1),ct := Pv (i + 1),bk := D.nx } σ2 H2) (hd : ∀ σ H,Pv xs.length σ H -> D.nx σ H) :
  ∃ W : Nat -> Nat -> St -> Hp -> Prop,(∃ m,W 0 m σ H) /\ ∀ i m σ H,W i m σ H ->
   ((Itl K a).stop i H /\ D.nx σ H) \/ ((Itl K a).go i H /\ ∃ N : St -> Hp -> Prop,(∀ σ' H',N σ' H' -> ∃ m',m' < m /\ W (i + 1) m' σ' H') /\ ∀ x H',(Itl K a).yld i H x H' -> g x σ H' fun σ2 H2=>tb { D with nx := N,ct := N,bk := D.nx } σ2 H2) := by
 refine ⟨fun i m σ H=>m = xs.length - i /\ i <= xs.length /\ Pv i σ H,⟨xs.length,by simp,Nat.zero_le _,h0⟩,?_⟩
 rintro i m σ H ⟨rfl,hi,p⟩
 have q := hl i σ H hi p
 by_cases hlt : i < xs.length
 ·refine .inr ⟨⟨xs,xs[i],q,by simp [hlt]⟩,Pv (i + 1),fun σ' H' p' => ⟨xs.length - (i + 1),by omega,rfl,hlt,p'⟩,fun x H' y=>?_⟩
  obtain ⟨e,y⟩ := y
  subst e
  exact hs i x σ _ (y xs q) p
 ·have e : i = xs.length := by omega
  subst e
  exact .inl ⟨⟨xs,q,Nat.le_refl _⟩,hd σ H p⟩
theorem rqU {K : PySem.W.Frag} {a : Addr} {xs : List V} {g : TG} {tb : TS} {D : Ends} {σ : St} {H : Hp} (Pv : Nat -> St -> Hp -> Prop) (h0 : Pv 0 σ H) (hl : ∀ i σ H,i <= xs.length -> Pv i σ H -> SqT K H a xs)
  (hs : ∀ i x σ H,xs[i]? = some x -> Pv i σ H -> g x σ H fun σ2 H2=>tb { D with nx := Pv (i + 1),ct := Pv (i + 1),bk := D.nx } σ2 H2) (hd : ∀ σ H,Pv xs.length σ H -> D.nx σ H) :
  ∃ W : Nat -> Nat -> St -> Hp -> Prop,(∃ m,W 0 m σ H) /\ ∀ i m σ H,W i m σ H ->
   ((Itt K a).stop i H /\ D.nx σ H) \/ ((Itt K a).go i H /\ ∃ N : St -> Hp -> Prop,(∀ σ' H',N σ' H' -> ∃ m',m' < m /\ W (i + 1) m' σ' H') /\ ∀ x H',(Itt K a).yld i H x H' -> g x σ H' fun σ2 H2=>tb { D with nx := N,ct := N,bk := D.nx } σ2 H2) := by
 refine ⟨fun i m σ H=>m = xs.length - i /\ i <= xs.length /\ Pv i σ H,⟨xs.length,by simp,Nat.zero_le _,h0⟩,?_⟩
 rintro i m σ H ⟨rfl,hi,p⟩
 have q := hl i σ H hi p
 by_cases hlt : i < xs.length
 ·refine .inr ⟨⟨xs,xs[i],q,by simp [hlt]⟩,Pv (i + 1),fun σ' H' p' => ⟨xs.length - (i + 1),by omega,rfl,hlt,p'⟩,fun x H' y=>?_⟩
  obtain ⟨e,y⟩ := y
  subst e
  exact hs i x σ _ (y xs q) p
 ·have e : i = xs.length := by omega
  subst e
  exact .inl ⟨⟨xs,q,Nat.le_refl _⟩,hd σ H p⟩
theorem oqo {lo : Int} {n : Nat} {g : TG} {tb : TS} {D : Ends} {σ : St} {H : Hp} (Pv : Nat -> St -> Hp -> Prop) (h0 : Pv 0 σ H)
  (hs : ∀ i σ H,i < n -> Pv i σ H -> g (.int (lo + i)) σ H fun σ2 H2=>tb { D with nx := Pv (i + 1),ct := Pv (i + 1),bk := D.nx } σ2 H2) (hd : ∀ σ H,Pv n σ H -> D.nx σ H) :
  ∃ W : Nat -> Nat -> St -> Hp -> Prop,(∃ m,W 0 m σ H) /\ ∀ i m σ H,W i m σ H ->
   ((Itr lo n).stop i H /\ D.nx σ H) \/ ((Itr lo n).go i H /\ ∃ N : St -> Hp -> Prop,(∀ σ' H',N σ' H' -> ∃ m',m' < m /\ W (i + 1) m' σ' H') /\ ∀ x H',(Itr lo n).yld i H x H' -> g x σ H' fun σ2 H2=>tb { D with nx := N,ct := N,bk := D.nx } σ2 H2) := by
 refine ⟨fun i m σ H=>m = n - i /\ i <= n /\ Pv i σ H,⟨n,by simp,Nat.zero_le _,h0⟩,?_⟩
 rintro i m σ H ⟨rfl,hi,p⟩
 by_cases hlt : i < n
 ·refine .inr ⟨hlt,Pv (i + 1),fun σ' H' p' => ⟨n - (i + 1),by omega,rfl,hlt,p'⟩,fun x H' y=>?_⟩
  obtain ⟨e,y⟩ := y
  subst e y
  exact hs i σ _ hlt p
 ·have e : i = n := by omega
  subst e
  exact .inl ⟨Nat.le_refl _,hd σ H p⟩
abbrev R2 := V -> V -> Hp -> VK -> Prop
def OpR (X : Cx) (f : Value -> Value -> Sem Value) (r : R2) : Prop :=
 ∀ (pins : List (Addr × Obj)) (s : Shared) (σ : St) (H : Hp) (x y : V) (v u : Value) (Q : VK),Inv X pins σ H s -> RelV x v -> RelV y u -> r x y H Q ->
  wpAny (model X.prog X.w) X.A (f v u) (EP X pins σ Q) X.xe s
def UnR (X : Cx) (f : Value -> Sem Value) (r : V -> Hp -> VK -> Prop) : Prop :=
 ∀ (pins : List (Addr × Obj)) (s : Shared) (σ : St) (H : Hp) (x : V) (v : Value) (Q : VK),Inv X pins σ H s -> RelV x v -> r x H Q ->
  wpAny (model X.prog X.w) X.A (f v) (EP X pins σ Q) X.xe s
def CallR (X : Cx) (f : Value) (r : List V -> Hp -> VK -> Prop) : Prop :=
 ∀ (pins : List (Addr × Obj)) (s : Shared) (σ : St) (H : Hp) (xs : List V) (us : List Value) (Q : VK),Inv X pins σ H s -> Vals xs us -> r xs H Q ->
  wpAny (model X.prog X.w) X.A (call f us) (EP X pins σ Q) X.xe s
def tOp (r : R2) (ta tb : TE) : TE := fun σ H Q=>ta σ H fun x H1=>tb σ H1 fun y H2=>r x y H2 Q
def tUn (r : V -> Hp -> VK -> Prop) (ta : TE) : TE := fun σ H Q=>ta σ H fun x H1=>r x H1 Q
def rI (C : Int -> Int -> Prop) (g : Int -> Int -> V) : R2 := fun x y H Q=>∃ i j,x = .int i /\ y = .int j /\ C i j /\ Q (g i j) H
def rI0 (g : Int -> Int -> V) : R2 := fun x y H Q=>∃ i j,x = .int i /\ y = .int j /\ Q (g i j) H
def rU (g : Int -> V) : V -> Hp -> VK -> Prop := fun x H Q=>∃ i,x = .int i /\ Q (g i) H
section
variable {X : Cx} {a b c : Expr} {ta tb tc : TE} {pos : Pos}
theorem binT (ha : PE X a ta) (hb : PE X b tb) {pins : List (Addr × Obj)} {s : Shared} {σ : St} {H : Hp} {R : V -> V -> Hp -> Prop} (I : Inv X pins σ H s)
  (h : ta σ H fun x H1=>tb σ H1 fun y H2=>R x y H2) {Q : Value -> Shared -> Prop} {f : Value -> Value -> Sem Value}
  (hf : ∀ v u s2 x y H2,Inv X pins σ H2 s2 -> RelV x v -> RelV y u -> R x y H2 -> wpAny (model X.prog X.w) X.A (f v u) Q X.xe s2) :
  wpAny (model X.prog X.w) X.A (eval a X.env) (fun v s₁=>wpAny (model X.prog X.w) X.A (eval b X.env) (fun u s₂=>wpAny (model X.prog X.w) X.A (f v u) Q X.xe s₂) X.xe s₁) X.xe s := by
 refine thn (ha pins s σ H _ I h) fun v s1 W' => ?_
 obtain ⟨x,H1,I1,r1,q1⟩ := W'
 refine thn (hb pins s1 σ H1 _ I1 q1) fun u s2 W' => ?_
 obtain ⟨y,H2,I2,r2,q2⟩ := W'
 exact hf v u s2 x y H2 I2 r1 r2 q2
theorem aqr {op : Operator} {r : R2} (ho : OpR X (binaryOp op) r) (ha : PE X a ta) (hb : PE X b tb) : PE X (.BinOp a op b pos) (tOp r ta tb) := by
 intro pins s σ H Q I h
 exact wpAny_BinOp (binT ha hb I h fun v u s2 x y H2 I2 rx ry q=>ho pins s2 σ H2 x y v u Q I2 rx ry q)
theorem lqm {op : UnaryOp} {r : V -> Hp -> VK -> Prop} (ho : UnR X (unaryOp op) r) (ha : PE X a ta) : PE X (.UnaryOp op a pos) (tUn r ta) := by
 intro pins s σ H Q I h
 exact UnaryOp_ (thn (ha pins s σ H _ I h) fun v s1 ⟨x,H1,I1,r1,q1⟩=>ho pins s1 σ H1 x v Q I1 r1 q1)
theorem opI {f : Value -> Value -> Sem Value} {C : Int -> Int -> Prop} {g : Int -> Int -> Int}
  (rule : ∀ (i j : Int) (t u : Tok) (s : Shared) (Q : Value -> Shared -> Prop) (E : Value -> Shared -> Prop),C i j -> Q (.int (g i j) s.toks) { s with toks := s.toks + 1 } -> wpAny (model X.prog X.w) X.A (f (.int i t) (.int j u)) Q E s) :
  OpR X f (rI C fun i j=>.int (g i j)) := by
 intro pins s σ H x y v u Q I rx ry h
 obtain ⟨i,j,rfl,rfl,hc,q⟩ := h
 obtain ⟨t,rfl⟩ := rx
 obtain ⟨t',rfl⟩ := ry
 exact rule i j t t' s _ _ hc ⟨.int (g i j),H,I.tok _,⟨_,rfl⟩,q⟩
theorem opI0 {f : Value -> Value -> Sem Value} {g : Int -> Int -> Int}
  (rule : ∀ (i j : Int) (t u : Tok) (s : Shared) (Q : Value -> Shared -> Prop) (E : Value -> Shared -> Prop),Q (.int (g i j) s.toks) { s with toks := s.toks + 1 } -> wpAny (model X.prog X.w) X.A (f (.int i t) (.int j u)) Q E s) :
  OpR X f (rI0 fun i j=>.int (g i j)) := by
 intro pins s σ H x y v u Q I rx ry h
 obtain ⟨i,j,rfl,rfl,q⟩ := h
 obtain ⟨t,rfl⟩ := rx
 obtain ⟨t',rfl⟩ := ry
 exact rule i j t t' s _ _ ⟨.int (g i j),H,I.tok _,⟨_,rfl⟩,q⟩
theorem opB0 {f : Value -> Value -> Sem Value} {g : Int -> Int -> Bool}
  (rule : ∀ (i j : Int) (t u : Tok) (s : Shared) (Q : Value -> Shared -> Prop) (E : Value -> Shared -> Prop),Q (.bool (g i j)) s -> wpAny (model X.prog X.w) X.A (f (.int i t) (.int j u)) Q E s) :
  OpR X f (rI0 fun i j=>.bl (g i j)) := by
 intro pins s σ H x y v u Q I rx ry h
 obtain ⟨i,j,rfl,rfl,q⟩ := h
 obtain ⟨t,rfl⟩ := rx
 obtain ⟨t',rfl⟩ := ry
 exact rule i j t t' s _ _ ⟨.bl (g i j),H,I,rfl,q⟩
def CDiv (i j : Int) : Prop := 0 < j /\ j < 1073741824
def CPow (i j : Int) : Prop := 0 <= j /\ j <= 1000000 /\ i.natAbs < 2 ^ 64
def CMul (i j : Int) : Prop := (-(2 ^ 64) < i /\ i < 2 ^ 64) \/ (-(2 ^ 64) < j /\ j < 2 ^ 64)
theorem CMul.ok {i j : Int} (h : CMul i j) : IntMulOk i j := by
 rcases h with ⟨h1,h2⟩ | ⟨h1,h2⟩
 ·exact .of_left (intBits_le_64 h1 h2)
 ·exact .of_right (intBits_le_64 h1 h2)
theorem sqo : OpR X (binaryOp .Add) (rI0 fun i j=>.int (i + j)) := opI0 fun _ _ _ _ _ _ _ q=>add_int q
theorem mqi : OpR X (binaryOp .Sub) (rI0 fun i j=>.int (i - j)) := opI0 fun _ _ _ _ _ _ _ q=>sub_int q
theorem sqw : OpR X (binaryOp .Mult) (rI CMul fun i j=>.int (i * j)) := opI fun _ _ _ _ _ _ _ hc q=>mul_int q hc.ok
theorem aqM : OpR X (binaryOp .FloorDiv) (rI CDiv fun i j=>.int (i / j)) := opI fun i j _ _ _ _ _ hc q=>by
 have h1 : (0 : Int) < j := hc.1
 have h2 : j < 1073741824 := hc.2
 exact floordiv_int (by omega) (by rw [Int.fdiv_eq_ediv_of_nonneg i (by omega)]; exact q) (.inl (PyProof.noPylong_small (by omega)))
theorem aqN : OpR X (binaryOp .Mod) (rI (fun _ j=>0 < j) fun i j=>.int (i % j)) := opI fun i j _ _ _ _ _ hc q=>by
 have h1 : (0 : Int) < j := hc
 exact mod_int' (by omega) (by rw [Int.fmod_eq_emod_of_nonneg i (by omega)]; exact q)
theorem qqd : OpR X (binaryOp .Pow) (rI CPow fun i j=>.int (i ^ j.toNat)) := opI fun _ _ _ _ _ _ _ hc q=>pow_int_small hc.1 hc.2.1 hc.2.2 q
theorem unI {f : Value -> Sem Value} {g : Int -> Int}
  (rule : ∀ (i : Int) (t : Tok) (s : Shared) (Q : Value -> Shared -> Prop) (E : Value -> Shared -> Prop),Q (.int (g i) s.toks) { s with toks := s.toks + 1 } -> wpAny (model X.prog X.w) X.A (f (.int i t)) Q E s) :
  UnR X f (rU fun i=>.int (g i)) := by
 intro pins s σ H x v Q I rx h
 obtain ⟨i,rfl,q⟩ := h
 obtain ⟨t,rfl⟩ := rx
 exact rule i t s _ _ ⟨.int (g i),H,I.tok _,⟨_,rfl⟩,q⟩
theorem hqC : UnR X (unaryOp .USub) (rU fun i=>.int (-i)) := unI fun _ _ _ _ _ q=>neg_int q
end
def scal : V -> V -> Bool
 | .non,.non=>true | .non,.int _=>true | .int _,.non=>true | .non,.bl _=>true | .bl _,.non=>true | .non,.str _=>true | .str _,.non=>true
 | .int _,.int _=>true | .bl _,.bl _=>true | .str _,.str _=>true | .byt _,.byt _=>true
 | .int _,.str _=>true | .str _,.int _=>true | .bl _,.str _=>true | .str _,.bl _=>true
 | _,_=>false
def rEq : R2 := fun x y H Q=>scal x y = true /\ Q (.bl (decide (x = y))) H
def rNe : R2 := fun x y H Q=>scal x y = true /\ Q (.bl (!decide (x = y))) H
theorem nqX {i j : Int} : decide (V.int i = V.int j) = (i == j) := by
 rw [Bool.eq_iff_iff]
 simp
theorem pq4 {i j : Bool} : decide (V.bl i = V.bl j) = (i == j) := by
 rw [Bool.eq_iff_iff]
 simp
theorem oqc {i j : Str} : decide (V.str i = V.str j) = (i == j) := by
 rw [Bool.eq_iff_iff]
 simp
theorem oqD {i j : Array UInt8} : decide (V.byt i = V.byt j) = (i.toList == j.toList) := by
 rw [Bool.eq_iff_iff]
 cases i
 cases j
 simp
section
variable {X : Cx} {a b c : Expr} {ta tb tc : TE} {pos : Pos}
theorem aqI {pins : List (Addr × Obj)} {σ : St} {H : Hp} {s : Shared} {Q : VK} {k k' : Bool} (I : Inv X pins σ H s) (q : Q (.bl k) H) (e : k = k') : EP X pins σ Q (.bool k') s := by
 subst e
 exact ⟨.bl k,H,I,rfl,q⟩
theorem aqK : OpR X (compareOp .Eq) rEq := by
 intro pins s σ H x y v u Q I rx ry h
 obtain ⟨hs,q⟩ := h
 cases x with
 | non =>
  cases rx
  cases y with
  | non=>cases ry; exact PySem.EqNone.eq_none_none (aqI I q (by simp))
  | bl j=>cases ry; exact PySem.EqNone.eq_none_bool (aqI I q (by simp))
  | int j=>obtain ⟨t',rfl⟩ := ry; exact PySem.EqNone.eq_none_int (aqI I q (by simp))
  | str j=>obtain ⟨t',rfl⟩ := ry; exact PySem.EqNone.eq_none_str (aqI I q (by simp))
  | _=>exact absurd (show false = true from hs) Bool.false_ne_true
 | bl i =>
  cases rx
  cases y with
  | non=>cases ry; exact PySem.EqNone.eq_bool_none (aqI I q (by simp))
  | bl j=>cases ry; exact eq_bool (aqI I q pq4)
  | str j=>obtain ⟨t',rfl⟩ := ry; exact PySem.EqMixed.eq_bool_str (aqI I q (by simp))
  | _=>exact absurd (show false = true from hs) Bool.false_ne_true
 | int i =>
  obtain ⟨t,rfl⟩ := rx
  cases y with
  | non=>cases ry; exact PySem.EqNone.eq_int_none (aqI I q (by simp))
  | int j=>obtain ⟨t',rfl⟩ := ry; exact eq_int (aqI I q nqX)
  | str j=>obtain ⟨t',rfl⟩ := ry; exact PySem.EqMixed.eq_int_str (aqI I q (by simp))
  | _=>exact absurd (show false = true from hs) Bool.false_ne_true
 | str i =>
  obtain ⟨t,rfl⟩ := rx
  cases y with
  | non=>cases ry; exact PySem.EqNone.eq_str_none (aqI I q (by simp))
  | bl j=>cases ry; exact PySem.EqMixed.eq_str_bool (aqI I q (by simp))
  | int j=>obtain ⟨t',rfl⟩ := ry; exact PySem.EqMixed.eq_str_int (aqI I q (by simp))
  | str j=>obtain ⟨t',rfl⟩ := ry; exact eq_str (aqI I q oqc)
  | _=>exact absurd (show false = true from hs) Bool.false_ne_true
 | byt i =>
  obtain ⟨t,rfl⟩ := rx
  cases y with
  | byt j=>obtain ⟨t',rfl⟩ := ry; exact PySem.W.eq_bytes (aqI I q oqD)
  | _=>exact absurd (show false = true from hs) Bool.false_ne_true
 | _=>cases y <;> exact absurd (show false = true from hs) Bool.false_ne_true
theorem hqX : OpR X (compareOp .NotEq) rNe := by
 intro pins s σ H x y v u Q I rx ry h
 obtain ⟨hs,q⟩ := h
 cases x with
 | non =>
  cases rx
  cases y with
  | non=>cases ry; exact PySem.EqNone.ne_none_none (aqI I q (by simp))
  | bl j=>cases ry; exact PySem.EqNone.ne_none_bool (aqI I q (by simp))
  | int j=>obtain ⟨t',rfl⟩ := ry; exact PySem.EqNone.ne_none_int (aqI I q (by simp))
  | str j=>obtain ⟨t',rfl⟩ := ry; exact PySem.EqNone.ne_none_str (aqI I q (by simp))
  | _=>exact absurd (show false = true from hs) Bool.false_ne_true
 | bl i =>
  cases rx
  cases y with
  | non=>cases ry; exact PySem.EqNone.ne_bool_none (aqI I q (by simp))
  | bl j=>cases ry; exact ne_bool (aqI I q (congrArg not pq4))
  | str j=>obtain ⟨t',rfl⟩ := ry; exact PySem.EqMixed.ne_bool_str (aqI I q (by simp))
  | _=>exact absurd (show false = true from hs) Bool.false_ne_true
 | int i =>
  obtain ⟨t,rfl⟩ := rx
  cases y with
  | non=>cases ry; exact PySem.EqNone.ne_int_none (aqI I q (by simp))
  | int j=>obtain ⟨t',rfl⟩ := ry; exact ne_int (aqI I q (congrArg not nqX))
  | str j=>obtain ⟨t',rfl⟩ := ry; exact PySem.EqMixed.ne_int_str (aqI I q (by simp))
  | _=>exact absurd (show false = true from hs) Bool.false_ne_true
 | str i =>
  obtain ⟨t,rfl⟩ := rx
  cases y with
  | non=>cases ry; exact PySem.EqNone.ne_str_none (aqI I q (by simp))
  | bl j=>cases ry; exact PySem.EqMixed.ne_str_bool (aqI I q (by simp))
  | int j=>obtain ⟨t',rfl⟩ := ry; exact PySem.EqMixed.ne_str_int (aqI I q (by simp))
  | str j=>obtain ⟨t',rfl⟩ := ry; exact ne_str (aqI I q (congrArg not oqc))
  | _=>exact absurd (show false = true from hs) Bool.false_ne_true
 | byt i =>
  obtain ⟨t,rfl⟩ := rx
  cases y with
  | byt j=>obtain ⟨t',rfl⟩ := ry; exact PySem.W.ne_bytes (aqI I q (congrArg not oqD))
  | _=>exact absurd (show false = true from hs) Bool.false_ne_true
 | _=>cases y <;> exact absurd (show false = true from hs) Bool.false_ne_true
theorem pqr : OpR X (compareOp .Lt) (rI0 fun i j=>.bl (decide (i < j))) := opB0 fun _ _ _ _ _ _ _ q=>lt_int q
theorem lqR : OpR X (compareOp .LtE) (rI0 fun i j=>.bl (decide (i <= j))) := opB0 fun _ _ _ _ _ _ _ q=>le_int q
theorem lqC : OpR X (compareOp .Gt) (rI0 fun i j=>.bl (decide (j < i))) := opB0 fun _ _ _ _ _ _ _ q=>gt_int q
theorem tqz : OpR X (compareOp .GtE) (rI0 fun i j=>.bl (decide (j <= i))) := opB0 fun _ _ _ _ _ _ _ q=>ge_int q
theorem oqJ : OpR X (compareOp .In) (fun x y H Q=>∃ i j,x = .str i /\ y = .str j /\ Q (.bl (!(Builtin.Str.occurrences j i 0 j.length 1).isEmpty)) H) := by
 intro pins s σ H x y v u Q I rx ry h
 obtain ⟨i,j,rfl,rfl,q⟩ := h
 obtain ⟨t,rfl⟩ := rx
 obtain ⟨t',rfl⟩ := ry
 exact in_str (aqI I q rfl)
theorem sqC : OpR X (compareOp .Is) (fun x y H Q=>y = .non /\ Q (.bl (decide (x = .non))) H) := by
 intro pins s σ H x y v u Q I rx ry h
 obtain ⟨rfl,q⟩ := h
 cases ry
 refine is_none_gen (aqI I q ?_)
 cases x <;> first
  | (cases rx; rfl)
  | (obtain ⟨t,rfl⟩ := rx; rfl)
theorem qqo : OpR X (compareOp .IsNot) (fun x y H Q=>y = .non /\ Q (.bl (!decide (x = .non))) H) := by
 intro pins s σ H x y v u Q I rx ry h
 obtain ⟨rfl,q⟩ := h
 cases ry
 refine isnot_none_gen (aqI I q ?_)
 cases x <;> first
  | (cases rx; rfl)
  | (obtain ⟨t,rfl⟩ := rx; rfl)
theorem kqg : OpR X (compareOp .NotIn) (fun x y H Q=>∃ i j,x = .str i /\ y = .str j /\ Q (.bl (!(!(Builtin.Str.occurrences j i 0 j.length 1).isEmpty))) H) := by
 intro pins s σ H x y v u Q I rx ry h
 obtain ⟨i,j,rfl,rfl,q⟩ := h
 obtain ⟨t,rfl⟩ := rx
 obtain ⟨t',rfl⟩ := ry
 exact notIn_str (aqI I q rfl)
theorem nomark (b : Expr) {op : CmpOp} (h : op ≠ .In := by decide) (h2 : op ≠ .NotIn := by decide) : behindInMarks op b = false := by
 have e1 : (op == CmpOp.In) = false := by cases op <;> first | rfl | exact absurd rfl h
 have e2 : (op == CmpOp.NotIn) = false := by cases op <;> first | rfl | exact absurd rfl h2
 cases b <;> simp [behindInMarks,e1,e2]
theorem aqC {op : CmpOp} {r : R2} (ho : OpR X (compareOp op) r) (ha : PE X a ta) (hb : PE X b tb) (hm : behindInMarks op b = false) : PE X (.Compare a [op] [b] pos) (tOp r ta tb) := by
 intro pins s σ H Q I h
 exact wpAny_Compare1 (binT ha hb I h fun v u s2 x y H2 I2 rx ry q=>ho pins s2 σ H2 x y v u Q I2 rx ry q) hm
def tTest (t : TE) : TT := fun σ H Q=>t σ H fun x H' => ∃ k,x = .bl k /\ Q k H'
theorem aql {op : CmpOp} {r : R2} (ho : OpR X (compareOp op) r) (ha : PE X a ta) (hb : PE X b tb) (hm : behindInMarks op b = false) : PT X (.Compare a [op] [b] pos) (tTest (tOp r ta tb)) := by
 intro pins s σ H Q I h
 refine wpAny_isTrue_Compare1 (thn (ha pins s σ H _ I h) fun v s1 ⟨x,H1,I1,r1,q1⟩=>thn (hb pins s1 σ H1 _ I1 q1) fun u s2 ⟨y,H2,I2,r2,q2⟩ =>
  thn (ho pins s2 σ H2 x y v u _ I2 r1 r2 q2) fun c s3 ⟨z,H3,I3,r3,k,e,q3⟩=>?_) hm
 subst e
 cases r3
 exact wpAny_truthy_bool ⟨H3,I3,q3⟩
def tChain (r r' : R2) (ta tb tc : TE) : TE := fun σ H Q=>ta σ H fun x H1=>tb σ H1 fun y H2=>r x y H2 fun z H3=>∃ k,z = .bl k /\
 (if k = true then tc σ H3 fun w' H4=>r' y w' H4 Q else Q (.bl false) H3)
theorem mqu {op op' : CmpOp} {r r' : R2} (ho : OpR X (compareOp op) r) (ho' : OpR X (compareOp op') r') (ha : PE X a ta) (hb : PE X b tb) (hc : PE X c tc)
  (hm : lastMarks [op,op'] [b,c] = false := by with_unfolding_all rfl) : PE X (.Compare a [op,op'] [b,c] pos) (tChain r r' ta tb tc) := by
 intro pins s σ H Q I h
 refine Compare_chain (thn (ha pins s σ H _ I h) fun v s1 ⟨x,H1,I1,r1,q1⟩=>chain_link (thn (hb pins s1 σ H1 _ I1 q1) fun u s2 ⟨y,H2,I2,r2,q2⟩ =>
  thn (ho pins s2 σ H2 x y v u _ I2 r1 r2 q2) fun d s3 ⟨z,H3,I3,r3,k,e,q3⟩=>?_)) hm
 subst e
 cases r3
 refine wpAny_truthy_bool ?_
 cases k with
 | false=>exact ite_ff ⟨.bl false,H3,I3,rfl,q3⟩
 | true=>exact ite_tt (chain_last (thn (hc pins s3 σ H3 _ I3 q3) fun w' s4 ⟨z',H4,I4,r4,q4⟩=>ho' pins s4 σ H4 y z' u w' Q I4 r2 r4 q4))
theorem pqc {op op' : CmpOp} {r r' : R2} (ho : OpR X (compareOp op) r) (ho' : OpR X (compareOp op') r') (ha : PE X a ta) (hb : PE X b tb) (hc : PE X c tc)
  (hm : lastMarks [op,op'] [b,c] = false := by with_unfolding_all rfl) : PT X (.Compare a [op,op'] [b,c] pos) (tTest (tChain r r' ta tb tc)) := by
 intro pins s σ H Q I h
 refine isTrue_chain (thn (ha pins s σ H _ I h) fun v s1 ⟨x,H1,I1,r1,q1⟩=>test_link (thn (hb pins s1 σ H1 _ I1 q1) fun u s2 ⟨y,H2,I2,r2,q2⟩ =>
  thn (ho pins s2 σ H2 x y v u _ I2 r1 r2 q2) fun d s3 ⟨z,H3,I3,r3,k,e,q3⟩=>?_)) hm
 subst e
 cases r3
 refine wpAny_truthy_bool ?_
 cases k with
 | false =>
  obtain ⟨k',e',q'⟩ := q3
  cases e'
  exact ite_ff ⟨H3,I3,q'⟩
 | true =>
  refine ite_tt (test_last (thn (hc pins s3 σ H3 _ I3 q3) fun w' s4 ⟨z',H4,I4,r4,q4⟩=>thn (ho' pins s4 σ H4 y z' u w' _ I4 r2 r4 q4) fun d' s5 W' => ?_))
  obtain ⟨z2,H5,I5,r5,k2,e2,q5⟩ := W'
  subst e2
  cases r5
  exact wpAny_truthy_bool ⟨H5,I5,q5⟩
theorem line63 : (sizeLine : Nat) < 2 ^ 63 := by rw [sizeLine_eq]; decide
theorem mqX : OpR X (binaryOp .Add) (fun x y H Q=>∃ i j,x = .str i /\ y = .str j /\ i.length + j.length <= sizeLine /\ Q (.str (i ++ j)) H) := by
 intro pins s σ H x y v u Q I rx ry h
 obtain ⟨i,j,rfl,rfl,hz,q⟩ := h
 obtain ⟨t,rfl⟩ := rx
 obtain ⟨t',rfl⟩ := ry
 exact add_str (fun t' tk=>⟨.str (i ++ j),H,I.tok _,⟨_,rfl⟩,q⟩) hz
theorem vals1 {x : V} {us : List Value} (r : Vals [x] us) : ∃ u,us = [u] /\ RelV x u := by
 cases r with
 | cons r1 r2=>cases r2; exact ⟨_,rfl,r1⟩
theorem vals2 {x y : V} {us : List Value} (r : Vals [x,y] us) : ∃ u w',us = [u,w'] /\ RelV x u /\ RelV y w' := by
 cases r with
 | cons r1 r2 =>
  cases r2 with
  | cons r3 r4=>cases r4; exact ⟨_,_,rfl,r1,r3⟩
theorem kqq : CallR X (.type "int") (fun xs H Q=>(∃ i,xs = [.int i] /\ Q (.int i) H) \/ ∃ k,xs = [.bl k] /\ Q (.int (if k then 1 else 0)) H) := by
 intro pins s σ H xs us Q I r h
 rcases h with ⟨i,rfl,q⟩ | ⟨k,rfl,q⟩
 ·obtain ⟨u,rfl,t,rfl⟩ := vals1 r
  exact call_int_int ⟨.int i,H,I,⟨_,rfl⟩,q⟩
 ·obtain ⟨u,rfl,r1⟩ := vals1 r
  cases r1
  exact call_int_bool ⟨.int (if k then 1 else 0),H,I.tok _,⟨_,rfl⟩,q⟩
theorem hqa : CallR X (.type "str") (fun xs H Q=>∃ i,xs = [.int i] /\ i.natAbs.log2 < 1920 /\ Q (.str (toString i)) H) := by
 intro pins s σ H xs us Q I r h
 obtain ⟨i,rfl,hz,q⟩ := h
 obtain ⟨u,rfl,t,rfl⟩ := vals1 r
 exact PySem.P.str_of_int hz ⟨.str _,H,I.tok _,⟨_,rfl⟩,q⟩
end
structure ObjM (h : Heap) (x dx C : Addr) (mA : Str -> Option Value) : Prop where
 obj : h.get? x = some (PySem.W.instObj C dx)
 ns : h.Ns1 dx mA
 ne : dx ≠ x
theorem nqZ {h : Heap} {dx : Addr} {mA : Str -> Option Value} (n : h.Ns1 dx mA) : ∃ od,h.get? dx = some od /\ ∀ name,PySem.W.lookIn name od = some (mA name) := by
 obtain ⟨o,es,ep,ho,hd,hk,_,hm⟩ := n
 refine ⟨o,ho,fun name=>?_⟩
 have e := hm name
 unfold nsFind findBy at e
 rw [<- Array.find?_toList] at e
 unfold PySem.W.lookIn
 rw [hd]
 dsimp only
 split
 ·rename_i y q
  rw [q] at e
  exact congrArg some e
 ·rename_i q
  rw [q] at e
  have a : es.toList.any (·.refKey) = false := by
   rw [List.any_eq_false]
   intro y hy
   obtain ⟨z,t,hkey⟩ := hk y (Array.mem_toList_iff.mp hy)
   simp [DictEntry.refKey,hkey]
  have a' : ¬ es.toList.any (·.refKey) = true := by rw [a]; exact Bool.false_ne_true
  rw [if_neg a']
  exact congrArg some e
theorem ObjM.look {h : Heap} {x dx C : Addr} {mA : Str -> Option Value} (I : ObjM h x dx C mA) : ∃ od,PySem.W.InstAt h x (PySem.W.instObj C dx) C (some od) /\ ∀ name,PySem.W.lookIn name od = some (mA name) :=
 let ⟨od,ho,hl⟩ := nqZ I.ns
 ⟨od,⟨I.obj,rfl,rfl,ho⟩,hl⟩
section
variable {prog : Program} {w : World} {A : Around} {E : Value -> Shared -> Prop} {s : Shared} {K : PySem.W.Frag} {x dx C f : Addr} {mA : Str -> Option Value} {name : Str} {v : Value}
end
def putF (f : Str) (v : V) : List (Str × V) -> List (Str × V)
 | [] => [(f,v)]
 | (g,x) :: r=>if g = f then (g,v) :: r else (g,x) :: putF f v r
theorem RelO.some_of {v : V} {o : Option Value} (r : RelO (some v) o) : ∃ u,o = some u /\ RelV v u := by
 cases o with
 | none=>exact (show False from r).elim
 | some u=>exact ⟨u,rfl,r⟩
section
variable {P : Program} {w : World} {H H' : Hp} {h h' : Heap} {a C dx : Addr} {fs fs' : List (Str × V)}
theorem rqj (hok : HOk P w H h) (e : H a = some (.ins C dx fs)) : ∃ mA,ObjM h a dx C mA /\ (∀ f,RelO (fs.lookup f) (mA f)) /\ PySem.Within mA (fs.map (·.1)) /\ fs.length <= 1000 /\ H dx = some (.own a) := by
 obtain ⟨d,z,ne,ob,mA,n,r,q⟩ := (show ObjOk P w H h a (.ins C dx fs) from hok a _ e)
 exact ⟨mA,⟨ob,n,ne⟩,r,q,z,d⟩
end
structure Cls (K : PySem.W.Frag) (C : Addr) : Prop where
 pg : PySem.W.plainGet K C Str.empty = true
 hd : PySem.W.hasDictIn K C = true
 po : PySem.W.plainOver K C = true
 sa : PySem.W.findIn K (.ref C) "__setattr__" = some (some (.builtin "object.__setattr__"))
theorem Cls.get {K : PySem.W.Frag} {C : Addr} (c : Cls K C) (f : Str) : PySem.W.plainGet K C f = true := c.pg
def NoAttr (K : PySem.W.Frag) (C : Addr) (f : Str) : Prop := PySem.W.findIn K (.ref C) f = some none
theorem NoAttr.taker {K : PySem.W.Frag} {C : Addr} {f : Str} (n : NoAttr K C f) : PySem.W.takerIn K C f = some none := by
 unfold PySem.W.takerIn
 rw [show PySem.W.findIn K (.ref C) f = some none from n]
 rfl
structure Con (K : PySem.W.Frag) (C : Addr) (f : Str) (v : V) (u : Value) : Prop where
 at_ : PySem.W.findIn K (.ref C) f = some (some u)
 rel : RelV v u
 get : PySem.W.specialIn K u "__get__" = some none
 cp : PySem.W.copiedNames.contains f = false
structure Meth (K : PySem.W.Frag) (C : Addr) (m : Str) (f : Addr) : Prop where
 at_ : PySem.W.findIn K (.ref C) m = some (some (.ref f))
 fn : PySem.W.isFn K (.ref f) = true
 kp : PySem.W.keepIn K (.ref f) = true
section
variable {X : Cx} {pins : List (Addr × Obj)} {σ : St} {H : Hp} {s : Shared} {a C dx : Addr} {fs : List (Str × V)} {f : Str} {v : V} {A : Around} {E : Value -> Shared -> Prop}
end
def tFld (K : PySem.W.Frag) (ta : TE) (f : Str) : TE := fun σ H Q=>ta σ H fun x H1=>∃ a C dx fs v,x = .ref a /\ H1 a = some (.ins C dx fs) /\ Cls K C /\ NoAttr K C f /\ fs.lookup f = some v /\ Q v H1
def sFld (K : PySem.W.Frag) (ta tv : TE) (f : Str) : TS := fun D σ H=>tv σ H fun y H1=>ta σ H1 fun x H2=>∃ a C dx fs,x = .ref a /\ H2 a = some (.ins C dx fs) /\ Cls K C /\ NoAttr K C f /\ fs.length < 1000 /\
 D.nx σ (upd H2 a (.ins C dx (putF f y fs)))
section
variable {X : Cx} {o e value : Expr} {f : Str} {pos pos' tpos : Pos} {ta tv : TE}
end
section
variable {X : Cx} {pins : List (Addr × Obj)} {σ : St} {H : Hp} {s : Shared} {A : Around} {E : Value -> Shared -> Prop} {Q : Value -> Shared -> Prop} {c : Value} {b : Bool}
inductive TyOf (K : PySem.W.Frag) (H : Hp) : V -> Value -> Prop where
 | non : TyOf K H .non (.type "NoneType")
 | bl (x : Bool) : TyOf K H (.bl x) (.type "bool")
 | int (i : Int) : TyOf K H (.int i) (.type "int")
 | str (x : Str) : TyOf K H (.str x) (.type "str")
 | flt (x : UInt64) : TyOf K H (.flt x) (.type "float")
 | lst {a : Addr} {xs : List V} (e : H a = some (.lst xs)) : TyOf K H (.ref a) (.type "list")
 | frz {a : Addr} {o : Obj} {xs : List V} (e : H a = some (.frz o (.lst xs))) : TyOf K H (.ref a) (.type "list")
 | tup {a : Addr} {xs : List V} (e : H a = some (.tup xs)) : TyOf K H (.ref a) (.type "tuple")
 | dK {a : Addr} {kvs : List (Key × V)} (e : H a = some (.dK kvs)) : TyOf K H (.ref a) (.type "dict")
 | dT {a : Addr} {kvs : List (List Key × V)} (e : H a = some (.dT kvs)) : TyOf K H (.ref a) (.type "dict")
 | ins {a C dx : Addr} {fs : List (Str × V)} (e : H a = some (.ins C dx fs)) (cl : Cls K C) (ha : PySem.W.findIn K (.ref C) "__class__" = some (some (.builtin "object.__class__")))
   (hn : PySem.W.specialIn K (.builtin "object.__class__") "__get__" = some (some (.builtin "getset_descriptor.__get__"))) (htk : PySem.W.takesIn K (.builtin "object.__class__") = some true)
   (hm : PySem.W.mroIn K C (.type "object") = some true) : TyOf K H (.ref a) (.ref C)
theorem nqE {x : V} {u t : Value} (I : Inv X pins σ H s) (rx : RelV x u) (ty : TyOf X.K H x t) (e : PySem.W.kitOne X.K t c = some b) (h : ∀ tk,Q (.bool b) { s with toks := tk }) :
  wpAny (model X.prog X.w) A (call (.builtin "isinstance") [u,c]) Q E s := by
 cases ty with
 | non=>cases (show u = Value.none from rx); exact PySem.W.kia_one PySem.W.kitx_none I.kIn True.intro e (fun z=>nomatch z) h
 | bl y=>cases (show u = Value.bool y from rx); exact PySem.W.kia_one PySem.W.kitx_bool I.kIn True.intro e (fun z=>nomatch z) h
 | int i=>obtain ⟨t,q⟩ := (show ∃ t,u = Value.int i t from rx); cases q; exact PySem.W.kia_one PySem.W.kitx_int I.kIn True.intro e (fun z=>nomatch z) h
 | str y=>obtain ⟨t,q⟩ := (show ∃ t,u = Value.str y t from rx); cases q; exact PySem.W.kia_one PySem.W.kitx_str I.kIn True.intro e (fun z=>nomatch z) h
 | flt y=>obtain ⟨t,q⟩ := (show ∃ t,u = Value.float y t from rx); cases q; exact PySem.W.kia_one PySem.W.kitx_float I.kIn True.intro e (fun z=>nomatch z) h
 | @lst a xs ea =>
  cases (show u = Value.ref a from rx)
  obtain ⟨_,_,n,_,h1⟩ := (show ObjOk X.prog X.w H s.heap a (.lst xs) from I.hok a _ ea)
  exact PySem.W.kia_one PySem.W.kitx_list I.kIn ⟨_,h1,rfl⟩ e (fun z=>nomatch z) h
 | @frz a ob xs ea =>
  cases (show u = Value.ref a from rx)
  obtain ⟨_,_,_,n,_,h1⟩ := (show ObjOk X.prog X.w H s.heap a (.frz ob (.lst xs)) from I.hok a _ ea)
  exact PySem.W.kia_one PySem.W.kitx_list I.kIn ⟨_,h1,rfl⟩ e (fun z=>nomatch z) h
 | @tup a xs ea =>
  cases (show u = Value.ref a from rx)
  obtain ⟨_,_,_,p⟩ := (show ObjOk X.prog X.w H s.heap a (.tup xs) from I.hok a _ ea)
  obtain ⟨o,h1,h2,_⟩ := p
  exact PySem.W.kia_one PySem.W.kitx_tuple I.kIn ⟨o,h1,h2⟩ e (fun z=>nomatch z) h
 | @dK a kvs ea =>
  cases (show u = Value.ref a from rx)
  obtain ⟨_,_,vs,_,p⟩ := (show ObjOk X.prog X.w H s.heap a (.dK kvs) from I.hok a _ ea)
  obtain ⟨o,es,ep,h1,h2,_⟩ := p
  exact PySem.W.kia_one PySem.W.kitx_dict I.kIn ⟨o,h1,h2.1⟩ e (fun z=>nomatch z) h
 | @dT a kvs ea =>
  cases (show u = Value.ref a from rx)
  obtain ⟨_,_,xs,_,o,es,ep,h1,h2,_⟩ := (show ObjOk X.prog X.w H s.heap a (.dT kvs) from I.hok a _ ea)
  exact PySem.W.kia_one PySem.W.kitx_dict I.kIn ⟨o,h1,h2.1⟩ e (fun z=>nomatch z) h
 | @ins a C dx fs ea cl ha hn htk hm =>
  cases (show u = Value.ref a from rx)
  obtain ⟨mA,O,_⟩ := rqj I.hok ea
  obtain ⟨od,J,_⟩ := O.look
  exact PySem.W.kia_one (PySem.W.kitx_own (cl.get _) cl.hd ha hn htk hm) I.kIn J e (fun z=>nomatch z) h
end
structure Room (k : Nat) (A : Around) : Prop where
 hd : A.handled = none
 dp : A.depth + 3 * k + 5 < recursionLimit
 un : A.units + 16 * k + 200 < cLine
theorem Room.mono {j k : Nat} {A : Around} (r : Room k A) (h : j <= k) : Room j A := ⟨r.hd,by have := r.dp; omega,by have := r.un; omega⟩
theorem Room.deeper {k : Nat} {A : Around} (r : Room (k + 1) A) (env : Env) : Room k (A.deeper env) :=
 ⟨r.hd,by have := r.dp; show A.depth + 1 + 3 * k + 5 < _; omega,by have := r.un; show A.units + 3 + 16 * k + 200 < _; omega⟩
theorem mqN {A : Around} {C : Addr} {us : List Value} {kw : List (Str × Value)} : (A.under (.builtin "type.__call__" ⟨.ref C :: us,kw⟩)).depth = A.depth + 1 := by
 first | rfl | simp [Around.under,Code.weight,Code.isCreation,Code.isGuard,Code.isCaller,Code.frames,Code.isFrame,guardIds]
theorem mq1 {A : Around} {C : Addr} {us : List Value} {kw : List (Str × Value)} : (A.under (.builtin "type.__call__" ⟨.ref C :: us,kw⟩)).units = A.units + 1 := by
 first | rfl | simp [Around.under,Code.cUnits,Code.frames,Code.isFrame]
theorem Room.make {k : Nat} {A : Around} (r : Room (k + 1) A) (C : Addr) (us : List Value) (kw : List (Str × Value)) : Room k (A.under (.builtin "type.__call__" ⟨.ref C :: us,kw⟩)) :=
 ⟨r.hd,by have := r.dp; rw [mqN]; omega,by have := r.un; rw [mq1]; omega⟩
theorem Room.depth {k : Nat} {A : Around} (r : Room k A) : A.depth < recursionLimit := by have := r.dp; omega
theorem Room.units {k : Nat} {A : Around} (r : Room k A) : A.units + 64 < cLine := by have := r.un; omega
def tNil : TA := fun _ H Q=>Q [] H
def tCons (ta : TE) (tr : TA) : TA := fun σ H Q=>ta σ H fun x H1=>tr σ H1 fun xs H2=>Q (x :: xs) H2
section
variable {X : Cx} {e : Expr} {es : List Expr} {te : TE} {t : TA} {pos : Pos}
theorem aqb : PA X [] tNil := fun _ _ _ _ H Q I h=>Calls.spliced_nil ⟨[],H,I,.nil,h⟩
theorem aqa (ha : PE X e te) (hr : PA X es t) (hs : starEach (e :: es) X.env = (false,eval e X.env) :: starEach es X.env := by rfl) : PA X (e :: es) (tCons te t) := by
 intro pos pins s σ H Q I h
 rw [hs]
 show wpAny _ _ (spliced ((false,eval e X.env) :: backTo pos (starEach es X.env))) _ _ s
 refine Calls.spliced_cons (thn (ha pins s σ H _ I h) fun u s1 W' => ?_)
 obtain ⟨x,H1,I1,r1,q1⟩ := W'
 exact thn (hr pos pins s1 σ H1 _ I1 q1) fun us s2 ⟨xs,H2,I2,r2,q2⟩=>⟨x :: xs,H2,I2,.cons r1 r2,q2⟩
def tTup (t : TA) : TE := fun σ H Q=>t σ H fun xs H1=>xs.length <= sizeLine /\ ∀ p,H1 p = none -> Q (.ref p) (upd H1 p (.tup xs))
def tLst (t : TA) : TE := fun σ H Q=>t σ H fun xs H1=>xs.length <= sizeLine /\ ∀ p,H1 p = none -> Q (.ref p) (upd H1 p (.lst xs))
end
abbrev Sp := List V -> Hp -> VK -> XK -> Prop
abbrev CXT := List Env -> Hp -> Shared -> XK -> Value -> Shared -> Prop
structure Env0 (P : Program) (w : World) (K : PySem.W.Frag) (mg : Str -> Option Value) (base : Heap) (A : Around) (outer : List Env) (s : Shared) (H : Hp) : Prop where
 frames : A.frames = some outer
 mod : Mod K mg base
 bs : ∀ b o,base.get? b = some o -> s.heap.get? b = some o /\ H b = none
 bsz : base.objs.size <= s.heap.objs.size
 funs : s.heap.FunFrames base outer
 frf : ∀ b ∈ frs outer,H b = none
 hok : HOk P w H s.heap
 bare : AllBare s.gens
def CE (outer : List Env) (P : Program) (w : World) (H : Hp) (s : Shared) (Q : VK) (u : Value) (s' : Shared) : Prop :=
 ∃ v H',s'.os = s.os /\ AllBare s'.gens /\ Un (frs outer) [] H H' s.heap s'.heap /\ HOk P w H' s'.heap /\ RelV v u /\ Q v H'
def CR (CX : CXT) (outer : List Env) (P : Program) (w : World) (H : Hp) (s : Shared) (Q : VK) (E : XK) (r : Result) (s' : Shared) : Prop :=
 match r with
 | .ok (.ret u)=>CE outer P w H s Q u s'
 | .ok _=>False
 | .error e=>CX outer H s E e s'
structure FnOk (P : Program) (w : World) (K : PySem.W.Frag) (mg : Str -> Option Value) (base : Heap) (CX : CXT) (k : Nat) (f : Addr) (fd : FuncData) (ps : List Str) (sp : Sp) : Prop where
 len : ∀ vs H Q E,sp vs H Q E -> vs.length = ps.length
 run : ∀ (A : Around) (outer : List Env) (s : Shared) (H : Hp) (args : Args) (us : List Value) (vs : List V) (Q : VK) (E : XK),Room k A -> Env0 P w K mg base A outer s H -> BindsTo s fd args (ps.zip us) -> Vals vs us -> sp vs H Q E ->
  codeAny (model P w) A (.call (.ref f) args) (CR CX outer P w H s Q E) s
theorem Env0.make {P : Program} {w : World} {K : PySem.W.Frag} {mg : Str -> Option Value} {base : Heap} {A : Around} {outer : List Env} {s : Shared} {H : Hp} (e : Env0 P w K mg base A outer s H) (C : Addr) (us : List Value) (kw : List (Str × Value)) :
  Env0 P w K mg base (A.under (.builtin "type.__call__" ⟨.ref C :: us,kw⟩)) outer s H := ⟨by first | exact e.frames | (simpa [Around.under,Code.envs,Code.isFrame,pushEnvs] using e.frames),e.mod,e.bs,e.bsz,e.funs,e.frf,e.hok,e.bare⟩
section
variable {X : Cx} {pins : List (Addr × Obj)} {σ : St} {H : Hp} {s s' : Shared}
theorem Inv.env0 (I : Inv X pins σ H s) : Env0 X.prog X.w X.K X.mg X.base X.A X.stack s H :=
 ⟨I.ok.frames,I.ok.mod,I.bs,Nat.le_trans I.ok.bsz I.sz,I.stack,I.stkFree,I.hok,I.bare⟩
theorem Inv.after {Q : VK} {u : Value} (I : Inv X pins σ H s) (h : CE X.stack X.prog X.w H s Q u s') : EP X pins σ Q u s' := by
 obtain ⟨v,H',os,bare,un,hok,r,q⟩ := h
 obtain ⟨hh,g,d,t,os'⟩ := s'
 obtain rfl : os' = s.os := os
 exact ⟨v,H',I.call (h' := hh) (g' := g) (d' := d) (t' := t) (ch := []) un hok bare (fun b z=>absurd z (by simp)),r,q⟩
end
def tCall (sp : Sp) (dvs : List V) (E : XK) (t : TA) : TE := fun σ H Q=>t σ H fun vs H1=>sp (vs ++ dvs) H1 Q E
def tMeth (C : Addr) (m : Str) (sp : Sp) (dvs : List V) (E : XK) (ta : TE) (t : TA) : TE := fun σ H Q=>ta σ H fun x H1=>∃ a dx fs,x = .ref a /\ H1 a = some (.ins C dx fs) /\ fs.lookup m = none /\
 t σ H1 fun vs H2=>sp (x :: (vs ++ dvs)) H2 Q E
def tMake (C : Addr) (sp : Sp) (dvs : List V) (E : XK) (t : TA) : TE := fun σ H Q=>t σ H fun vs H1=>∀ x dx,H1 x = none -> H1 dx = none -> dx ≠ x ->
 sp (.ref x :: (vs ++ dvs)) (upd (upd H1 dx (.own x)) x (.ins C dx [])) (fun v H2=>v = .non /\ Q (.ref x) H2) E
def Binds (K : PySem.W.Frag) (fd : FuncData) (ps : List Str) (ds : List Value) : Prop :=
 ∀ (s : Shared) (us : List Value),K.In s.heap -> (us ++ ds).length = ps.length -> BindsTo s fd ⟨us,[]⟩ (ps.zip (us ++ ds))
theorem Binds.all {K : PySem.W.Frag} {fd : FuncData} {ps : List Str} (h : ∀ us : List Value,us.length = ps.length -> bindArgs fd ⟨us,[]⟩ = pure (ps.zip us)) : Binds K fd ps [] := fun s us _ hl=>by
 rw [List.append_nil] at hl ⊢
 exact .of_eq (h us hl)
def Passes (CX : CXT) (X : Cx) (E : XK) : Prop := ∀ (pins : List (Addr × Obj)) (σ : St) (H : Hp) (s : Shared) (e : Value) (s' : Shared),Inv X pins σ H s -> CX X.stack H s E e s' -> X.xe e s'
section
variable {X : Cx} {CX : CXT} {k : Nat} {f C : Addr} {fd : FuncData} {ps : List Str} {sp : Sp} {dvs : List V} {ds : List Value} {E : XK} {x m : Str} {p pos apos : Pos} {e o : Expr} {es : List Expr} {ta : TE} {t : TA}
theorem sqT {pins : List (Addr × Obj)} {σ : St} {H : Hp} {s : Shared} {Q : VK} {us : List Value} {vs : List V} (F : FnOk X.prog X.w X.K X.mg X.base CX k f fd ps sp) (hr : Room k X.A) (hb : Binds X.K fd ps ds) (hd : Vals dvs ds) (hx : Passes CX X E)
  (I : Inv X pins σ H s) (r : Vals vs us) (h : sp (vs ++ dvs) H Q E) : wpAny (model X.prog X.w) X.A (call (.ref f) us) (EP X pins σ Q) X.xe s := by
 have r2 : Vals (vs ++ dvs) (us ++ ds) := r.append hd
 have hl : (us ++ ds).length = ps.length := by rw [<- r2.length]; exact F.len _ _ _ _ h
 refine wpAny_call (codeAny_mono (F.run X.A X.stack s H ⟨us,[]⟩ (us ++ ds) (vs ++ dvs) Q E hr I.env0 (hb s us I.kIn hl) r2 h) fun r s' hq=>?_)
 cases r with
 | error e=>exact hx pins σ H s e s' I hq
 | ok fl =>
  cases fl with
  | ret u=>exact I.after hq
  | next=>exact False.elim hq
  | brk=>exact False.elim hq
  | cont=>exact False.elim hq
theorem aqk (F : FnOk X.prog X.w X.K X.mg X.base CX k f fd ps sp) (hr : Room k X.A) (hg : Gl X x) (hm : X.mg x = some (.ref f)) (hk : PySem.W.keepIn X.K (.ref f) = true) (hb : Binds X.K fd ps ds) (hd : Vals dvs ds) (hx : Passes CX X E)
  (ha : PA X (e :: es) t) (hdb : (x == ("__debug__" : Str)) = false := by decide) (he : starEach (e :: es) X.env = (false,eval e X.env) :: starEach es X.env := by rfl) (hpl : (backTo pos (starEach es X.env)).any (·.1) = false := by rfl) :
  PE X (.Call (.Name x p) (e :: es) [] pos) (tCall sp dvs E t) := by
 intro pins s σ H Q I h
 refine wpAny_Call_Name_kw (iqn I hg hm ?_ hdb)
 refine PySem.W.callWith_K (h₀ := X.base) I.ok.mod.kin hk (thn (ha pos pins s σ H _ I h) fun us s1 ⟨vs,H1,I1,r,q⟩=>⟨I1.kIn,?_⟩) he hpl
 exact sqT F hr hb hd hx I1 r q
structure Mk (K : PySem.W.Frag) (C f : Addr) : Prop where
 makes : PySem.W.makesIn K C = true
 init : PySem.W.findIn K (.ref C) "__init__" = some (some (.ref f))
 fn : PySem.W.isFn K (.ref f) = true
 kp : PySem.W.keepIn K (.ref C) = true
end
section
variable {X : Cx} {CX : CXT} {k : Nat} {f C : Addr} {fd : FuncData} {ps ks : List Str} {sp : Sp} {E : XK} {x m : Str} {p pos apos kpos : Pos} {e o : Expr} {es : List Expr} {kws : List Keyword} {te ta : TE} {t tk : TA} {nm : Option Str}
structure KBinds (K : PySem.W.Frag) (fd : FuncData) (ps ks : List Str) (g : List Value -> List Value -> List Value) (gV : List V -> List V -> List V) : Prop where
 to : ∀ (s : Shared) (us ws : List Value),K.In s.heap -> (g us ws).length = ps.length -> BindsTo s fd ⟨us,ks.zip ws⟩ (ps.zip (g us ws))
 rel : ∀ {vs : List V} {us : List Value} {zs : List V} {ws : List Value},Vals vs us -> Vals zs ws -> Vals (gV vs zs) (g us ws)
variable {g : List Value -> List Value -> List Value} {gV : List V -> List V -> List V}
end
structure FnScope (N P : List Str) (sc : Scope) : Prop where
 kind : sc.kind = .function
 co : sc.isCoroutine = false
 gen : sc.isGenerator = false
 nd : N.Nodup
 pre : N.take P.length = P
 par : ∀ x ∈ P,sc.names.lookup x = some .local \/ sc.names.lookup x = some .cell
 nofree : ∀ y ∈ sc.names,y.2 ≠ .free
theorem kq5 {kindOf : Str -> Option NameKind} {x : Str} : ∀ {binds : List (Str × Value)} {m : Str -> Option Value},(∀ v,(x,v) ∉ binds) -> bindL kindOf binds m x = m x
 | [],_,_=>rfl
 | (n,v) :: r,m,h=>by
  unfold bindL
  rw [kq5 fun w hw=>h w (List.mem_cons_of_mem _ hw)]
  split
  ·have : x ≠ n := by rintro rfl; exact h v List.mem_cons_self
   simp [this]
  ·rfl
theorem kqz {kindOf : Str -> Option NameKind} {x : Str} : ∀ {binds : List (Str × Value)} {m : Str -> Option Value},(∀ v,(x,v) ∉ binds) -> bindC kindOf binds m x = m x
 | [],_,_=>rfl
 | (n,v) :: r,m,h=>by
  unfold bindC
  rw [kqz fun w hw=>h w (List.mem_cons_of_mem _ hw)]
  split
  ·rfl
  ·have : x ≠ n := by rintro rfl; exact h v List.mem_cons_self
   simp [this]
theorem kqP {kindOf : Str -> Option NameKind} {x : Str} {v : Value} : ∀ {P : List Str} {vs : List Value} {i : Nat} {m : Str -> Option Value},P.Nodup -> P[i]? = some x -> vs[i]? = some v -> kindOf x = some .local ->
  bindL kindOf (P.zip vs) m x = some v
 | [],_,_,_,_,h,_,_=>by simp at h
 | _ :: _,[],_,_,_,_,h,_=>by simp at h
 | p :: P,w :: vs,0,m,nd,h1,h2,hk=>by
  simp at h1 h2; subst h1; subst h2
  show bindL kindOf ((p,w) :: P.zip vs) m p = _
  unfold bindL
  rw [kq5 fun v hv=>(List.nodup_cons.mp nd).1 (List.of_mem_zip hv).1,if_pos hk]
  simp
 | p :: P,w :: vs,i + 1,m,nd,h1,h2,hk=>by
  show bindL kindOf ((p,w) :: P.zip vs) m x = _
  unfold bindL
  exact kqP (i := i) (List.nodup_cons.mp nd).2 (by simpa using h1) (by simpa using h2) hk
theorem kq7 {kindOf : Str -> Option NameKind} {x : Str} {v : Value} : ∀ {P : List Str} {vs : List Value} {i : Nat} {m : Str -> Option Value},P.Nodup -> P[i]? = some x -> vs[i]? = some v -> kindOf x ≠ some .local ->
  bindC kindOf (P.zip vs) m x = some v
 | [],_,_,_,_,h,_,_=>by simp at h
 | _ :: _,[],_,_,_,_,h,_=>by simp at h
 | p :: P,w :: vs,0,m,nd,h1,h2,hk=>by
  simp at h1 h2; subst h1; subst h2
  show bindC kindOf ((p,w) :: P.zip vs) m p = _
  unfold bindC
  rw [kqz fun v hv=>(List.nodup_cons.mp nd).1 (List.of_mem_zip hv).1,if_neg hk]
  simp
 | p :: P,w :: vs,i + 1,m,nd,h1,h2,hk=>by
  show bindC kindOf ((p,w) :: P.zip vs) m x = _
  unfold bindC
  exact kq7 (i := i) (List.nodup_cons.mp nd).2 (by simpa using h1) (by simpa using h2) hk
def start (N : List Str) (vs : List V) : St := vs.map some ++ List.replicate (N.length - vs.length) none
def cxOf (CX : CXT) (P : Program) (w : World) (K : PySem.W.Frag) (mg : Str -> Option Value) (base : Heap) (N : List Str) (qual : Str) (scope : Scope) (f : Addr) (cd : Value) (A : Around) (outer : List Env) (s : Shared) (H : Hp) (E : XK) : Cx where
 prog := P
 w := w
 K := K
 mg := mg
 base := base
 A := A.deeper (envOfC qual scope s.heap.objs.size f cd)
 N := N
 s₀ := s
 H₀ := H
 env := envOfC qual scope s.heap.objs.size f cd
 outer := outer
 stack := envOfC qual scope s.heap.objs.size f cd :: outer
 ex := []
 calm := true
 fn := fun _=>true
 pn := []
 xe := fun e s' => wpAny (model P w) (A.deeper (envOfC qual scope s.heap.objs.size f cd)) (leaving (envOfC qual scope s.heap.objs.size f cd) e) (fun _ s'' => CX outer H s E e s'') (fun e' s'' => CX outer H s E e' s'') s'
theorem mqy {sc : Scope} {n : Nat} {x : Str} (h : sc.names.lookup x = some .cell) : ∃ c,(cellsFrom n sc.names []).lookup x = some c := by
 have q := PySem.W.cellsFrom_some sc.names n [] (.inl h)
 exact Option.isSome_iff_exists.mp q
theorem nqC {CX : CXT} {P : Program} {w : World} {K : PySem.W.Frag} {mg : Str -> Option Value} {base : Heap} {N ps : List Str} {qual : Str} {scope : Scope} {f : Addr} {cd : Value} {A : Around} {outer : List Env} {s s1 : Shared} {H : Hp} {E : XK} {us : List Value} {vs : List V}
  (S : FnScope N ps scope) (hd : A.handled = none) (e0 : Env0 P w K mg base A outer s H) (hl : vs.length = ps.length) (r : Vals vs us)
  (x : InCallC s s.heap.objs.size (bindL (envOfC qual scope s.heap.objs.size f cd).kindOf (ps.zip us) fun _=>none) (cellsFrom (s.heap.objs.size + 1) scope.names []) (bindC (envOfC qual scope s.heap.objs.size f cd).kindOf (ps.zip us) fun _=>none) s1) :
  Inv (cxOf CX P w K mg base N qual scope f cd A outer s H E) [] (start N vs) H s1 := by
 have hpl : ps.length <= N.length := by have := congrArg List.length S.pre; rw [List.length_take] at this; omega
 obtain ⟨h1,tk,rfl,hk⟩ := x.done
 have noA : ∀ b : Addr,b ∉ (cxOf CX P w K mg base N qual scope f cd A outer s H E).ex := fun b z=>absurd (show b ∈ ([] : List Addr) from z) (by simp)
 refine ⟨⟨e0.mod,S.kind,rfl,rfl,Nat.le_refl _,fun y z c h1 h2=>?_,fun y hy=>?_,fun y c _ h=>?_,fun _=>hd,Around.frames_deeper e0.frames,.inr ⟨rfl,rfl⟩,fun b z=>absurd z (noA b),e0.bs,e0.bsz,fun b _ _=>noA b,fun b z=>absurd z (noA b),e0.funs,e0.frf⟩,
  rfl,e0.bare,Un.kept hk,⟨_,x.toInCall.ns,fun i y v h1 h2 h3=>?_⟩,fun y c h=>⟨_,x.cell y c h⟩,e0.hok.fresh (Nat.le_refl _),fun y c h=>?_,fun p hp=>absurd (show p ∈ ([] : List (Addr × Obj)) from hp) (by simp),e0.hok.kept hk,?_⟩
 ·exact name_of_addr x.apart (PySem.mem_of_lookup h1) (PySem.mem_of_lookup h2)
 ·have hy : scope.names.lookup y = some .cell \/ scope.names.lookup y = some .free := hy
  rcases hy with hy | hy
  ·exact mqy hy
  ·exact absurd rfl (S.nofree _ (PySem.mem_of_lookup hy))
 ·exact Nat.le_of_lt (x.above y c (PySem.mem_of_lookup h))
 ·have hi : i < vs.length := by
   unfold start at h2
   by_cases hi : i < vs.length
   ·exact hi
   ·rw [List.getElem?_append_right (by simpa using hi)] at h2
    rw [List.getElem?_replicate] at h2
    split at h2 <;> cases h2
  have ha : vs[i]? = some v := by
   unfold start at h2
   rw [List.getElem?_append_left (by simpa using hi),List.getElem?_map] at h2
   cases e : vs[i]? with
   | none=>rw [e] at h2; cases h2
   | some a=>rw [e] at h2; cases h2; rfl
  obtain ⟨u,hu,rv⟩ := r.get ha
  have hp : ps[i]? = some y := by
   rw [<- S.pre,List.getElem?_take_of_lt (by omega)]; exact h1
  have ndP : ps.Nodup := by rw [<- S.pre]; exact S.nd.sublist (List.take_sublist _ _)
  refine ⟨u,rv,?_⟩
  rcases S.par y (List.mem_of_getElem? hp) with k | k
  ·exact .inl ⟨k,kqP ndP hp hu k⟩
  ·obtain ⟨c,e⟩ := mqy (n := s.heap.objs.size + 1) k
   refine .inr ⟨.inl k,c,e,?_⟩
   have q := x.cell y c e
   rw [kq7 ndP hp hu (by show scope.names.lookup y ≠ _; rw [k]; decide)] at q
   exact q
 ·exact e0.hok.fresh (Nat.le_of_lt (x.above y c (PySem.mem_of_lookup h)))
 ·unfold start
  show _ = N.length
  rw [List.length_append,List.length_map,List.length_replicate]
  omega
theorem sqf {CX : CXT} {P : Program} {w : World} {K : PySem.W.Frag} {mg : Str -> Option Value} {base : Heap} {k : Nat} {f : Addr} {name qual : Str} {params : Arguments} {body : List Stmt} {scope : Scope} {dV kV doc pm cdv ct oc : Value} {an od : Option Addr}
  {osl : Array (Option Value)} {N ps : List Str} {sp : Sp} (lk : K.lookup f = some ⟨oc,od,.func (PySem.W.fnOf name qual params body scope dV kV doc pm an cdv ct),osl⟩) (hcd : PySem.W.codeIn K cdv qual = true) (S : FnScope N ps scope)
  (len : ∀ vs H Q E,sp vs H Q E -> vs.length = ps.length)
  (hbody : ∀ (A : Around) (outer : List Env) (s : Shared) (H : Hp) (vs : List V) (Q : VK) (E : XK),Room k (A.deeper (envOfC qual scope s.heap.objs.size f cdv)) -> sp vs H Q E ->
   ∃ t,PSs (cxOf CX P w K mg base N qual scope f cdv A outer s H E) body t /\ t { nx := fun _ H' => Q .non H',rt := Q } (start N vs) H) :
  FnOk P w K mg base CX (k + 1) f (PySem.W.fnOf name qual params body scope dV kV doc pm an cdv ct) ps sp := by
 refine ⟨len,fun A outer s H args us vs Q E hr e0 hb r hsp=>?_⟩
 have hl := len _ _ _ _ hsp
 have KX : K.In s.heap := e0.mod.kin.keeps fun b o e=>(e0.bs b o e).1
 have lim : s.heap.NoLimit := e0.mod.nolimit.keeps fun b o e=>(e0.bs b o e).1
 have hkind : ∀ y ∈ ps.zip us,scope.names.lookup y.1 = some .local \/ (scope.names.lookup y.1 = some .cell /\ ((cellsFrom (s.heap.objs.size + 1) scope.names []).lookup y.1).isSome = true) := fun ⟨n,v⟩ hy=>by
  rcases S.par n (List.of_mem_zip hy).1 with q | q
  ·exact .inl q
  ·exact .inr ⟨q,PySem.W.cellsFrom_some _ _ _ (.inl q)⟩
 refine codeAny_call_function hr.depth (KX _ _ lk) rfl S.co S.gen rfl (PySem.W.codeRec_of KX hcd) (hb _ _ _ _ ?_)
 refine wpAny_newFunctionEnv_cells S.kind hkind fun env he s1 x=>?_
 subst he
 refine ⟨lim.keeps x.toInCall.keep,codeAny_func ?_⟩
 obtain ⟨t,ht,hq⟩ := hbody A outer s H vs Q E (hr.deeper _) hsp
 have I : Inv (cxOf CX P w K mg base N qual scope f cdv A outer s H E) [] (start N vs) H s1 := nqC S hr.hd e0 hl r x
 refine wpAny_mono (ht [] s1 (start N vs) H _ I hq) (fun fl s' hs=>?_) fun e s' hs=>hs
 have fin : ∀ {σ' : St} {H' : Hp} {v : V} {u : Value},Inv (cxOf CX P w K mg base N qual scope f cdv A outer s H E) [] σ' H' s' -> RelV v u -> Q v H' -> CE outer P w H s Q u s' :=
  fun {σ' H' v u} J rv q=>⟨v,H',J.os,J.bare,J.base,J.hok,rv,q⟩
 cases fl with
 | ret u =>
  obtain ⟨v,σ',H',J,rv,q⟩ := hs
  exact fin J rv q
 | next =>
  obtain ⟨σ',H',J,q⟩ := hs
  exact fin (v := V.non) (u := Value.none) J rfl q
 | brk =>
  obtain ⟨_,_,_,q⟩ := hs
  exact False.elim q
 | cont =>
  obtain ⟨_,_,_,q⟩ := hs
  exact False.elim q
section
variable {X : Cx} {x : Str} {p pos : Pos} {e : Expr} {es : List Expr} {t : TA} {id T : String} {r : List V -> Hp -> VK -> Prop}
def tCB (r : List V -> Hp -> VK -> Prop) (t : TA) : TE := fun σ H Q=>t σ H fun vs H1=>r vs H1 Q
theorem aqs (hc : CallR X (.builtin id) r) (hg : Gl X x) (hm : X.mg x = none) (hv : bootBuiltins x = some (.builtin id)) (ha : PA X (e :: es) t) (hn : x ≠ "__name__" := by decide) (hdb : (x == ("__debug__" : Str)) = false := by decide)
  (he : starEach (e :: es) X.env = (false,eval e X.env) :: starEach es X.env := by rfl) (hpl : (backTo pos (starEach es X.env)).any (·.1) = false := by rfl) : PE X (.Call (.Name x p) (e :: es) [] pos) (tCB r t) := by
 intro pins s σ H Q I h
 refine wpAny_Call_Name_kw (hqH I hg hm hv ?_ hn hdb)
 exact PyProof.Rows.callWith_builtin1 (thn (ha pos pins s σ H _ I h) fun us s1 ⟨vs,H1,I1,r1,q1⟩=>hc pins s1 σ H1 vs us Q I1 r1 q1) he hpl
theorem aqG (hc : CallR X (.type T) r) (hg : Gl X x) (hm : X.mg x = none) (hv : bootBuiltins x = some (.type T)) (ha : PA X (e :: es) t) (hn : x ≠ "__name__" := by decide) (hdb : (x == ("__debug__" : Str)) = false := by decide)
  (he : starEach (e :: es) X.env = (false,eval e X.env) :: starEach es X.env := by rfl) (hpl : (backTo pos (starEach es X.env)).any (·.1) = false := by rfl) : PE X (.Call (.Name x p) (e :: es) [] pos) (tCB r t) := by
 intro pins s σ H Q I h
 refine wpAny_Call_Name_kw (hqH I hg hm hv ?_ hn hdb)
 exact PyProof.Rows.callWith_type1 (thn (ha pos pins s σ H _ I h) fun us s1 ⟨vs,H1,I1,r1,q1⟩=>hc pins s1 σ H1 vs us Q I1 r1 q1) he hpl
end
end L2
namespace HT
open PySem PyProof.Rows
section
open PySem.SeqAt
open PySem.AutoSeq1 (wpAny_loadPart')
open PySem.MeetsSeq PySem.MeetsSeq2 PySem.MeetsSeq3
end
section
variable {prog : Program} {w : World} {A : Around} {E : Value -> Shared -> Prop} {s : Shared}
theorem cat_tup {t b : Addr} {vs ws : List Value} {Q : Value -> Shared -> Prop} (ht : IsTup s.heap t vs.toArray) (hb : IsTup s.heap b ws.toArray) (hv : vs ≠ [])
  (h1 : ws = [] -> Q (.ref t) s) (h2 : ws ≠ [] -> Q (.ref s.heap.objs.size) { s with heap := s.heap.push { cls := .type "tuple", data := .seq (vs ++ ws).toArray } })
  (hsz : vs.length + ws.length <= sizeLine) : wpAny (model prog w) A (binaryOp .Add (.ref t) (.ref b)) Q E s := by
 obtain ⟨⟨cls,dd,data,sl⟩,ho,hc,n,hd⟩ := id ht
 obtain ⟨⟨cls2,dd2,data2,sl2⟩,ho2,hc2,n2,hd2⟩ := id hb
 simp only at hc hd hc2 hd2
 subst hc hd hc2 hd2
 have e : vs.toArray ++ ws.toArray = (vs ++ ws).toArray := by simp
 by_cases hw : ws = []
 ·exact concat_meets ⟨_,ho,rfl⟩ ⟨_,ho2,rfl⟩ noFill_tuple_add seq_tuple_add PySem.F.slot_tuple_add PySem.F.entry_tuple_add (PySem.F.args_tuple_add_2 _ _)
   (tuple_addW1 t b vs.toArray ws.toArray n n2 dd dd2 sl sl2 (by simpa using hv) (by simp [hw])) ⟨ho,ho2,h1 hw⟩
 ·refine concat_meets ⟨_,ho,rfl⟩ ⟨_,ho2,rfl⟩ noFill_tuple_add seq_tuple_add PySem.F.slot_tuple_add PySem.F.entry_tuple_add (PySem.F.args_tuple_add_2 _ _)
   (tuple_addW2 t b vs.toArray ws.toArray n n2 dd dd2 sl sl2 (by simpa using hv) (by simpa using hw) (by rw [List.size_toArray,List.size_toArray]; exact hsz)) ⟨ho,ho2,?_⟩
  rw [e]
  exact h2 hw
def sIx (n d : Nat) : Option Int -> Nat
 | none=>d
 | some v=>if v < 0 then (v + (n : Int)).toNat else min v.toNat n
theorem sIx_none (n d : Nat) : sIx n d none = d := rfl
theorem sIx_nat (n d k : Nat) : sIx n d (some (k : Int)) = min k n := by
 show (if (k : Int) < 0 then ((k : Int) + (n : Int)).toNat else min (k : Int).toNat n) = min k n
 rw [if_neg (by omega),Int.toNat_natCast]
theorem rq0 (n d : Nat) (hd : d <= n) (o : Option Int) : sIx n d o <= n := by
 cases o with
 | none=>exact hd
 | some v =>
  show (if v < 0 then (v + (n : Int)).toNat else min v.toNat n) <= n
  by_cases hv : v < 0
  ·rw [if_pos hv]; omega
  ·rw [if_neg hv]; exact Nat.min_le_right _ _
theorem oqv (v : Int) (n d : Nat) : (if v < 0 then max (v + (n : Int)) 0 else min v (n : Int)) = ((sIx n d (some v) : Nat) : Int) := by
 show (if v < 0 then max (v + (n : Int)) 0 else min v (n : Int)) = (((if v < 0 then (v + (n : Int)).toNat else min v.toNat n) : Nat) : Int)
 by_cases hv : v < 0
 ·simp only [if_pos hv]; omega
 ·simp only [if_neg hv]; omega
theorem mq0 (lo hi : Option Int) (n : Nat) : Builtin.Slice.sliceAdjust lo hi 1 (n : Int) = (((sIx n 0 lo : Nat) : Int),((sIx n n hi : Nat) : Int)) := by
 have h1 : ¬ ((1 : Int) < 0) := by omega
 unfold Builtin.Slice.sliceAdjust
 simp only [h1,if_false]
 refine Prod.ext ?_ ?_
 ·cases lo with
  | none=>rfl
  | some v=>exact oqv v n 0
 ·cases hi with
  | none=>rfl
  | some v=>exact oqv v n n
theorem mqY (i j : Nat) : Builtin.Slice.slicePlaces (i : Int) (j : Int) 1 = j - i := by
 unfold Builtin.Slice.slicePlaces
 have h1 : (1 : Int) > 0 := by omega
 simp only [h1,if_true,Int.ediv_one]
 split <;> omega
theorem iqT {v : Value} {o : Option Int} {Q : Option Int -> Shared -> Prop} (p : IsPart v o) (h : Q o s) : wpAny (model prog w) A (Builtin.Slice.slicePartIndex v) Q E s := by
 cases p with
 | none=>exact slicePart_none h
 | int i t=>exact slicePart_int h
theorem eqi {sl : Addr} {vl vu : Value} {lo hi : Option Int} {n : Nat} {Q : Int × Int × Nat -> Shared -> Prop} (hs : s.heap.IsSliceOf sl vl vu .none) (pl : IsPart vl lo) (pu : IsPart vu hi)
  (h : Q (((sIx n 0 lo : Nat) : Int),1,sIx n n hi - sIx n 0 lo) s) : wpAny (model prog w) A (Builtin.Slice.sliceApplied (.ref sl) (pure (n : Int))) Q E s := by
 obtain ⟨os,hos,hcs,hds⟩ := id hs
 unfold Builtin.Slice.sliceApplied Builtin.Slice.sliceFields
 refine wpAny_bind (wpAny_bind (wpAny_field hos hds (x := vl) rfl (wpAny_bind (wpAny_field hos hds (x := vu) rfl (wpAny_bind (wpAny_field hos hds (x := .none) rfl (wpAny_pure ?_)))))))
 refine wpAny_bind (slicePart_none ?_)
 show wpAny _ _ (if ((1 : Int) == 0) = true then _ else _) _ _ s
 rw [if_neg (by decide)]
 refine wpAny_bind (iqT pl (wpAny_bind (iqT pu (wpAny_bind (wpAny_pure ?_)))))
 show wpAny _ _ (match Builtin.Slice.sliceAdjust lo hi 1 (n : Int) with | (lo,hi)=>pure (lo,(1 : Int),Builtin.Slice.slicePlaces lo hi 1)) _ _ s
 rw [mq0 lo hi n]
 show wpAny _ _ (pure (((sIx n 0 lo : Nat) : Int),(1 : Int),Builtin.Slice.slicePlaces ((sIx n 0 lo : Nat) : Int) ((sIx n n hi : Nat) : Int) 1)) _ _ s
 rw [mqY]
 exact wpAny_pure h
theorem pqs (xs : Array Value) (i k : Nat) : ((List.range k).filterMap fun (m : Nat)=>xs[((i : Int) + (m : Int) * 1).toNat]?).toArray = ((xs.toList.drop i).take k).toArray := by
 have e : (fun (m : Nat)=>xs[((i : Int) + (m : Int) * 1).toNat]?) = fun m=>xs[i + m]? := by
  funext m
  have : ((i : Int) + (m : Int) * 1).toNat = i + m := by omega
  rw [this]
 rw [e]
 have := pick_run xs i k
 rw [List.filterMap_map] at this
 have e2 : ((fun x=>xs[x]?) ∘ fun x=>i + x) = fun m=>xs[i + m]? := rfl
 rw [e2] at this
 rw [this]
theorem getItem_tuple_cut {t sl : Addr} {items : Array Value} {vl vu : Value} {lo hi : Option Int} {Q : Value -> Shared -> Prop} (ht : IsTup s.heap t items) (hs : s.heap.IsSliceOf sl vl vu .none) (pl : IsPart vl lo) (pu : IsPart vu hi)
  (hw : ¬ (sIx items.size 0 lo = 0 /\ sIx items.size items.size hi = items.size))
  (h : Q (.ref s.heap.objs.size) { s with heap := s.heap.push { cls := .type "tuple", data := .seq ((items.toList.drop (sIx items.size 0 lo)).take (sIx items.size items.size hi - sIx items.size 0 lo)).toArray } })
  (hsz : items.size <= sizeLine) : wpAny (model prog w) A (getItem (.ref t) (.ref sl)) Q E s := by
 have htake : sizeOk (.seq ((items.toList.drop (sIx items.size 0 lo)).take (sIx items.size items.size hi - sIx items.size 0 lo)).toArray) := by
  show ((items.toList.drop (sIx items.size 0 lo)).take (sIx items.size items.size hi - sIx items.size 0 lo)).toArray.size <= sizeLine
  rw [List.size_toArray,List.length_take,List.length_drop,Array.length_toList]
  omega
 have hj : sIx items.size items.size hi <= items.size := rq0 _ _ (Nat.le_refl _) hi
 obtain ⟨os,hos,hcs,hds⟩ := id hs
 have hTs : s.TypeIs (.ref sl) "slice" := ⟨os,hos,hcs⟩
 unfold getItem
 try with_reducible refine wpAny_holding ?_
 first | refine wpAny_bind (wpAny_pure ?_) | skip
 refine wpAny_bind (wpAny_sequenceKey ht.typeIs (by decide) ?_)
 refine wpAny_bind (wpAny_callSpecial?_slot (name := Str.ofString "__getitem__") ht.typeIs PyProof.Rows.slot_tuple_getitem
  (wpAny_call_entry PyProof.Rows.slot_tuple_getitem ht.typeIs entry_tuple_getitem ?_ (args_tuple_getitem _ _)))
 show wpAny _ _ (Builtin.Tuple.tupleItemsOf (.ref t) >>= _) _ _ s
 refine wpAny_bind (tupleItemsOf_ ht ?_)
 refine wpAny_bind (wpAny_typeOf hTs ?_)
 rw [if_pos (by decide)]
 refine wpAny_bind (eqi hs pl pu ?_)
 have hno : ¬ ((((sIx items.size 0 lo : Nat) : Int) == 0 && (1 : Int) == 1 && (sIx items.size items.size hi - sIx items.size 0 lo) == items.size) = true) := by
  intro q
  rw [Bool.and_eq_true,Bool.and_eq_true] at q
  have q1 : ((sIx items.size 0 lo : Nat) : Int) = 0 := eq_of_beq q.1.1
  have q2 : sIx items.size items.size hi - sIx items.size 0 lo = items.size := eq_of_beq q.2
  exact hw ⟨by omega,by omega⟩
 show wpAny _ _ (if (((sIx items.size 0 lo : Nat) : Int) == 0 && (1 : Int) == 1 && (sIx items.size items.size hi - sIx items.size 0 lo) == items.size) = true then _ else _) _ _ s
 rw [if_neg hno,pqs]
 first
  | exact wpAny_bind (m := Builtin.Tuple.tupleExact _) (wpAny_newObj_type (wpAny_pure ⟨_,rfl,wpAny_pure h⟩) htake)
  | exact wpAny_bind (m := Builtin.Tuple.tupleExact _) (wpAny_newObj_type (wpAny_bind (wpAny_pure (wpAny_pure ⟨_,rfl,wpAny_pure h⟩))) htake)
  | exact wpAny_bind (wpAny_bind (m := Builtin.Tuple.tupleExact _) (wpAny_newObj_type (wpAny_pure (wpAny_pure ⟨_,rfl,wpAny_pure h⟩)) htake))
  | exact wpAny_bind (wpAny_bind (m := Builtin.Tuple.tupleExact _) (wpAny_newObj_type (wpAny_pure ⟨_,rfl,wpAny_pure h⟩) htake))
end
end HT
namespace L2
open PySem PySem.Spec PyProof.Rows
abbrev TO := St -> Hp -> (Option Int -> Hp -> Prop) -> Prop
def PO (X : Cx) (e : Option Expr) (t : TO) : Prop :=
 ∀ (pins : List (Addr × Obj)) (s : Shared) (σ : St) (H : Hp) (Q : Option Int -> Hp -> Prop),Inv X pins σ H s -> t σ H Q ->
  wpAny (model X.prog X.w) X.A (evalPart e X.env) (fun u s' => ∃ o H',Inv X pins σ H' s' /\ IsPart u o /\ Q o H') X.xe s
def tNoPart : TO := fun _ H Q=>Q none H
def tPart (t : TE) : TO := fun σ H Q=>t σ H fun x H1=>∃ i,x = .int i /\ Q (some i) H1
section
variable {X : Cx} {e : Expr} {te : TE} {lo hi : Option Expr} {tl th : TO} {pos p2 : Pos}
theorem fqq : PO X none tNoPart := by
 intro pins s σ H Q I h
 rw [evalPart_none]
 exact wpAny_pure ⟨none,H,I,.none,h⟩
theorem cqs (h : PE X e te) : PO X (some e) (tPart te) := by
 intro pins s σ H Q I hw
 rw [evalPart_some]
 refine thn (h pins s σ H _ I hw) fun u s1 W' => ?_
 obtain ⟨x,H1,I1,r1,q1⟩ := W'
 obtain ⟨i,rfl,q⟩ := q1
 obtain ⟨t,rfl⟩ := r1
 exact ⟨some i,H1,I1,.int i t,q⟩
def SlR (X : Cx) (r : V -> Option Int -> Option Int -> Hp -> VK -> Prop) : Prop :=
 ∀ (pins : List (Addr × Obj)) (s : Shared) (σ : St) (H : Hp) (x : V) (v vl vu : Value) (lo hi : Option Int) (sl : Addr) (Q : VK),Inv X pins σ H s -> RelV x v -> s.heap.IsSliceOf sl vl vu .none -> IsPart vl lo -> IsPart vu hi -> r x lo hi H Q ->
  ∃ T id,typeLookup (.type T) "__getitem__" = pure (some (.builtin id)) /\ s.TypeIs v T /\ wpAny (model X.prog X.w) X.A (getItem v (.ref sl)) (EP X pins σ Q) X.xe s
theorem SlR.or {r r' : V -> Option Int -> Option Int -> Hp -> VK -> Prop} (h : SlR X r) (h' : SlR X r') : SlR X (fun x lo hi H Q=>r x lo hi H Q \/ r' x lo hi H Q) := by
 intro pins s σ H x v vl vu lo hi sl Q I rx hs pl pu q
 rcases q with q | q
 ·exact h pins s σ H x v vl vu lo hi sl Q I rx hs pl pu q
 ·exact h' pins s σ H x v vl vu lo hi sl Q I rx hs pl pu q
def tSl (r : V -> Option Int -> Option Int -> Hp -> VK -> Prop) (te : TE) (tl th : TO) : TE := fun σ H Q=>te σ H fun x H1=>tl σ H1 fun l H2=>th σ H2 fun u H3=>r x l u H3 Q
theorem dqq {r : V -> Option Int -> Option Int -> Hp -> VK -> Prop} (hr : SlR X r) (he : PE X e te) (hl : PO X lo tl) (hu : PO X hi th) : PE X (.Subscript e (.Slice lo hi none p2) pos) (tSl r te tl th) := by
 intro pins s σ H Q I h
 refine Subscript_ (thn (he pins s σ H _ I h) fun v s1 W' => ?_)
 obtain ⟨x,H1,I1,r1,q1⟩ := W'
 refine wpAny_Slice (thn (hl pins s1 σ H1 _ I1 q1) fun vl s2 ⟨l,H2,I2,pl,q2⟩=>thn (hu pins s2 σ H2 _ I2 q2) fun vu s3 W' => ?_)
 obtain ⟨u,H3,I3,pu,q3⟩ := W'
 rw [evalPart_none]
 refine wpAny_pure ?_
 have I4 : Inv X pins σ H3 { s3 with heap := s3.heap.push { cls := .type "slice", data := .fields #[vl,vu,.none] } } := I3.kept (t' := s3.toks) fun b ob q=>Heap.get?_push_of_some _ q
 obtain ⟨T,id,hT,ht,hg⟩ := hr pins { s3 with heap := s3.heap.push { cls := .type "slice", data := .fields #[vl,vu,.none] } } σ H3 x v vl vu l u s3.heap.objs.size Q I4 r1 (Heap.IsSliceOf.new ..) pl pu q3
 show wpAny (model X.prog X.w) X.A (subscriptTail e (.Slice lo hi none p2) v (.ref s3.heap.objs.size)) (EP X pins σ Q) X.xe { s3 with heap := s3.heap.push { cls := .type "slice", data := .fields #[vl,vu,.none] } }
 exact tail_any (ops := [.ref s3.heap.objs.size,v]) ht hT hg (by with_unfolding_all rfl)
def cutV (xs : List V) (lo hi : Option Int) : List V := (xs.drop (HT.sIx xs.length 0 lo)).take (HT.sIx xs.length xs.length hi - HT.sIx xs.length 0 lo)
theorem iqa (xs : List V) (lo hi : Option Int) : (cutV xs lo hi).length <= xs.length := by
 unfold cutV
 rw [List.length_take,List.length_drop]
 omega
def rSlT (K : PySem.W.Frag) : V -> Option Int -> Option Int -> Hp -> VK -> Prop := fun x lo hi H Q=>∃ a xs,x = .ref a /\ SqT K H a xs /\
 ¬ (HT.sIx xs.length 0 lo = 0 /\ HT.sIx xs.length xs.length hi = xs.length) /\ ∀ p,H p = none -> Q (.ref p) (upd H p (.tup (cutV xs lo hi)))
theorem tqe : SlR X (rSlT X.K) := by
 intro pins s σ H x v vl vu lo hi sl Q I rx hs pl pu h
 obtain ⟨a,xs,rfl,hx,hw,q⟩ := h
 cases rx
 obtain ⟨its,r,ht,hz⟩ := I.tuple hx
 have hlen : its.toArray.size = xs.length := by rw [List.size_toArray]; exact r.length.symm
 refine ⟨"tuple", _,PyProof.Rows.slot_tuple_getitem.lookup,ht.typeIs,?_⟩
 refine HT.getItem_tuple_cut ht hs pl pu (by rw [hlen]; exact hw) ?_ (by rw [hlen]; exact hz)
 rw [hlen]
 refine ⟨.ref s.heap.objs.size,_,I.laid (t' := s.toks) (o := .tup (cutV xs lo hi)) (fun b ob q=>Heap.get?_push_of_some _ q) (Nat.le_refl _) ?_,rfl,q _ (I.hok.fresh (Nat.le_refl _))⟩
 exact ⟨Nat.le_trans (iqa xs lo hi) hz,_,(r.drop (HT.sIx xs.length 0 lo)).take (HT.sIx xs.length xs.length hi - HT.sIx xs.length 0 lo),IsTup.new _ _⟩
def rCatT (K : PySem.W.Frag) : R2 := fun x y H Q=>∃ a b xs ys,x = .ref a /\ y = .ref b /\ SqT K H a xs /\ SqT K H b ys /\ xs ≠ [] /\ xs.length + ys.length <= sizeLine /\
 (ys = [] -> Q (.ref a) H) /\ (ys ≠ [] -> ∀ p,H p = none -> Q (.ref p) (upd H p (.tup (xs ++ ys))))
theorem Vals.nil_iff {xs : List V} {us : List Value} (r : Vals xs us) : us = [] ↔ xs = [] := by
 cases r with
 | nil=>simp
 | cons _ _=>simp
theorem qqy : OpR X (binaryOp .Add) (rCatT X.K) := by
 intro pins s σ H x y v u Q I rx ry h
 obtain ⟨a,b,xs,ys,rfl,rfl,ha,hb,hx,hz,q1,q2⟩ := h
 cases rx
 cases ry
 obtain ⟨its,r1,p1,_⟩ := I.tuple ha
 obtain ⟨its2,r2,p2,_⟩ := I.tuple hb
 refine HT.cat_tup p1 p2 (fun z=>hx (r1.nil_iff.mp z)) (fun z=>⟨.ref a,H,I,rfl,q1 (r2.nil_iff.mp z)⟩) (fun z=>?_) (by rw [<- r1.length,<- r2.length]; exact hz)
 refine ⟨.ref s.heap.objs.size,_,I.laid (t' := s.toks) (o := .tup (xs ++ ys)) (fun b ob q=>Heap.get?_push_of_some _ q) (Nat.le_refl _) ?_,rfl,q2 (fun w=>z (r2.nil_iff.mpr w)) _ (I.hok.fresh (Nat.le_refl _))⟩
 exact ⟨by rw [List.length_append]; exact hz,_,r1.append r2,IsTup.new _ _⟩
end
def ixN (n : Nat) (i : Int) : Option Nat := if 0 <= i then (if i < n then some i.toNat else none) else if -(n : Int) <= i then some (i + n).toNat else none
def atI {α : Type} (xs : List α) (i : Int) : Option α := (ixN xs.length i).bind fun j=>xs[j]?
theorem qqk {n : Nat} {i : Int} {j : Nat} (h : ixN n i = some j) : seqIndex? i n = some j /\ j < n /\ -(n : Int) <= i /\ i < n := by
 unfold ixN at h
 by_cases h0 : 0 <= i
 ·rw [if_pos h0] at h
  by_cases h1 : i < n
  ·rw [if_pos h1] at h
   have e : i.toNat = j := Option.some.inj h
   exact ⟨by rw [seqIndex_of h0 h1,e],by omega,by omega,h1⟩
  ·rw [if_neg h1] at h; cases h
 ·rw [if_neg h0] at h
  by_cases h1 : -(n : Int) <= i
  ·rw [if_pos h1] at h
   have e : (i + n).toNat = j := Option.some.inj h
   exact ⟨by rw [seqIndex_neg (by omega) h1,e],by omega,h1,by omega⟩
  ·rw [if_neg h1] at h; cases h
theorem lqq {α : Type} {xs : List α} {i : Int} {v : α} (h : atI xs i = some v) : ∃ j,seqIndex? i xs.length = some j /\ xs[j]? = some v /\ j < xs.length /\ -(xs.length : Int) <= i /\ i < xs.length := by
 unfold atI at h
 cases e : ixN xs.length i with
 | none=>rw [e] at h; cases h
 | some j =>
  rw [e] at h
  obtain ⟨h1,h2,h3,h4⟩ := qqk e
  exact ⟨j,h1,h,h2,h3,h4⟩
theorem aqi {α : Type} {xs : List α} {j : Nat} {v : α} (h : xs[j]? = some v) : atI xs (j : Int) = some v := by
 have hj : j < xs.length := (List.getElem?_eq_some_iff.mp h).1
 have e : ixN xs.length (j : Int) = some j := by
  unfold ixN
  rw [if_pos (by omega),if_pos (by omega)]; simp
 unfold atI; rw [e]; exact h
def PlainIx (b : Expr) : Prop := ∀ o i,subscripted b false o i = operate [o,i] (getItem o i)
def IxR (X : Cx) (r : R2) : Prop :=
 ∀ (value slice : Expr) (pins : List (Addr × Obj)) (s : Shared) (σ : St) (H : Hp) (x y : V) (v u : Value) (Q : VK),Inv X pins σ H s -> RelV x v -> RelV y u -> r x y H Q ->
  subscripted slice false v u = operate [v,u] (getItem v u) -> wpAny (model X.prog X.w) X.A (subscriptTail value slice v u) (EP X pins σ Q) X.xe s
def MtR (X : Cx) (id : String) (r : V -> List V -> Hp -> VK -> Prop) : Prop :=
 ∀ (pins : List (Addr × Obj)) (s : Shared) (σ : St) (H : Hp) (x : V) (xs : List V) (v : Value) (us : List Value) (Q : VK),Inv X pins σ H s -> RelV x v -> Vals xs us -> r x xs H Q ->
  wpAny (model X.prog X.w) X.A (call (.builtin id) (v :: us)) (EP X pins σ Q) X.xe s
section
variable {X : Cx} {a b : Expr} {ta tb : TE} {pos : Pos}
theorem IxR.or {r r' : R2} (h : IxR X r) (h' : IxR X r') : IxR X (fun x y H Q=>r x y H Q \/ r' x y H Q) := by
 intro value slice pins s σ H x y v u Q I rx ry q hs
 rcases q with q | q
 ·exact h value slice pins s σ H x y v u Q I rx ry q hs
 ·exact h' value slice pins s σ H x y v u Q I rx ry q hs
theorem aqp {r : R2} (hr : IxR X r) (ha : PE X a ta) (hb : PE X b tb) (hs : PlainIx b) : PE X (.Subscript a b pos) (tOp r ta tb) := by
 intro pins s σ H Q I h
 exact Subscript_ (binT ha hb I h fun v u s2 x y H2 I2 rx ry q=>hr a b pins s2 σ H2 x y v u Q I2 rx ry q (hs _ _))
def rIxL (K : PySem.W.Frag) : R2 := fun x y H Q=>∃ p xs i v,x = .ref p /\ y = .int i /\ SqL K H p xs /\ atI xs i = some v /\ Q v H
def rIxT (K : PySem.W.Frag) : R2 := fun x y H Q=>∃ p xs i v,x = .ref p /\ y = .int i /\ SqT K H p xs /\ atI xs i = some v /\ Q v H
def rIxS : R2 := fun x y H Q=>∃ z i c,x = .str z /\ y = .int i /\ z.length <= sizeLine /\ atI z.cps.toList i = some c /\ Q (.str ⟨#[c]⟩) H
theorem rqM : IxR X (rIxL X.K) := by
 intro value slice pins s σ H x y v u Q I rx ry h hs
 obtain ⟨p,xs,i,z,rfl,rfl,hq,he,q⟩ := h
 cases rx
 obtain ⟨t,rfl⟩ := ry
 obtain ⟨its,r,pl,hz⟩ := I.list hq
 obtain ⟨j,h1,h2,h3,h4,h5⟩ := lqq he
 obtain ⟨w,ew,rw'⟩ := r.get h2
 have hl := r.length
 have hn := line63
 have fin : EP X pins σ Q w s := ⟨z,H,I,rw',q⟩
 by_cases h0 : 0 <= i
 ·have hj : i.toNat = j := by
   rw [seqIndex_of h0 h5] at h1
   exact Option.some.inj h1
  exact item_listR pl.isList h0 (by omega) (by rw [hj]; simpa using ew) fin hs
 ·have hj : (i + (its.toArray.size : Int)).toNat = j := by
   rw [seqIndex_neg (by omega) h4] at h1
   rw [List.size_toArray,<- hl]
   exact Option.some.inj h1
  exact subscriptTail_builtinR (x := w) pl.isList.typeIs slot_list_getitem.lookup
   (wpAny_getItem_list_neg (Q := fun r s' => r = w /\ EP X pins σ Q r s') pl.isList (by omega) (by rw [List.size_toArray] <;> omega) (by omega) (by rw [hj]; simpa using ew) ⟨rfl,fin⟩) hs
theorem tqg : IxR X (rIxT X.K) := by
 intro value slice pins s σ H x y v u Q I rx ry h hs
 obtain ⟨p,xs,i,z,rfl,rfl,hq,he,q⟩ := h
 cases rx
 obtain ⟨t,rfl⟩ := ry
 obtain ⟨its,r,pl,hz⟩ := I.tuple hq
 obtain ⟨j,h1,h2,h3,h4,h5⟩ := lqq he
 obtain ⟨w,ew,rw'⟩ := r.get h2
 have hl := r.length
 have hn := line63
 have fin : EP X pins σ Q w s := ⟨z,H,I,rw',q⟩
 exact subscriptTail_builtinR (x := w) pl.typeIs slot_tuple_getitem.lookup
  (getItem_tuple (j := j) (Q := fun r s' => r = w /\ EP X pins σ Q r s') pl (by omega) (by omega) (by rw [List.size_toArray,<- hl]; exact h1) (by simpa using ew) ⟨rfl,fin⟩) hs
theorem sqK : IxR X rIxS := by
 intro value slice pins s σ H x y v u Q I rx ry h hs
 obtain ⟨z,i,c,rfl,rfl,hz,he,q⟩ := h
 obtain ⟨t,rfl⟩ := rx
 obtain ⟨t',rfl⟩ := ry
 obtain ⟨j,h1,h2,h3,h4,h5⟩ := lqq he
 have hl : z.cps.toList.length = z.length := by simp [Str.length]
 rw [hl] at h1 h4 h5
 have hn := line63
 exact tail_any (typeIs_str s z t) slot_str_getitem.lookup (getItem_str (c := c) (by
  have e1 : decide (i < -(2 ^ 63 : Int)) = false := decide_eq_false (by omega)
  have e2 : decide (i ≥ 2 ^ 63) = false := decide_eq_false (by omega)
  rw [e1,e2,Bool.or_false]) (by rw [h1]; simpa using h2) ⟨.str ⟨#[c]⟩,H,I.tok _,⟨_,rfl⟩,q⟩) hs
def rIx (K : PySem.W.Frag) : R2 := fun x y H Q=>rIxL K x y H Q \/ rIxT K x y H Q \/ rIxS x y H Q
theorem tqi : IxR X (rIx X.K) := rqM.or (tqg.or sqK)
def rSetL : V -> V -> V -> Hp -> (Hp -> Prop) -> Prop := fun o i v H Q=>∃ p xs k j,o = .ref p /\ i = .int k /\ H p = some (.lst xs) /\ ixN xs.length k = some j /\ Q (upd H p (.lst (xs.set j v)))
theorem kqr (lo hi : Option Int) (n : Nat) : (sliceBounds lo hi none n).1 = ((HT.sIx n 0 lo : Nat) : Int) /\ (sliceBounds lo hi none n).2.1 = ((HT.sIx n n hi : Nat) : Int) /\ (sliceBounds lo hi none n).2.2 = 1 := by
 refine ⟨?_,?_,rfl⟩
 ·cases lo with
  | none=>simp [sliceBounds,HT.sIx]
  | some i =>
   simp only [sliceBounds,HT.sIx,Option.getD_none,show (1 : Int) > 0 by decide,if_true]
   by_cases h : i < 0
   ·simp only [h,if_true] <;> omega
   ·simp only [h,if_false] <;> omega
 ·cases hi with
  | none=>simp [sliceBounds,HT.sIx]
  | some i =>
   simp only [sliceBounds,HT.sIx,Option.getD_none,show (1 : Int) > 0 by decide,if_true]
   by_cases h : i < 0
   ·simp only [h,if_true] <;> omega
   ·simp only [h,if_false] <;> omega
theorem jqF (its : List Value) (lo hi : Option Int) : slicePick its.toArray lo hi none = ((its.drop (HT.sIx its.length 0 lo)).take (HT.sIx its.length its.length hi - HT.sIx its.length 0 lo)).toArray := by
 obtain ⟨h1,h2,h3⟩ := kqr lo hi its.toArray.size
 unfold slicePick
 rw [h1,h2,h3]
 simp only [sliceRange_one,pick_run,List.size_toArray] <;> rfl
def rSlL (K : PySem.W.Frag) : V -> Option Int -> Option Int -> Hp -> VK -> Prop := fun x lo hi H Q=>∃ a xs,x = .ref a /\ SqL K H a xs /\ ∀ p,H p = none -> Q (.ref p) (upd H p (.lst (cutV xs lo hi)))
theorem oqb : SlR X (rSlL X.K) := by
 intro pins s σ H x v vl vu lo hi sl Q I rx hs pl pu h
 obtain ⟨a,xs,rfl,hx,q⟩ := h
 cases rx
 obtain ⟨its,r,ht,hz⟩ := I.list hx
 have hlen := r.length
 refine ⟨"list", _,slot_list_getitem.lookup,ht.isList.typeIs,?_⟩
 refine wpAny_getItem_list_slice ht.isList hs pl pu .none (by simp) ?_ (by rw [List.size_toArray] <;> omega)
 rw [jqF,<- hlen]
 refine ⟨.ref s.heap.objs.size,_,I.laid (t' := s.toks) (o := .lst (cutV xs lo hi)) (fun b ob q=>Heap.get?_push_of_some _ q) (Nat.le_refl _) ?_,rfl,q _ (I.hok.fresh (Nat.le_refl _))⟩
 exact ⟨Nat.le_trans (iqa xs lo hi) hz,_,0,(r.drop (HT.sIx xs.length 0 lo)).take (HT.sIx xs.length xs.length hi - HT.sIx xs.length 0 lo),Heap.get?_push_size _ rfl⟩
def flatV : V -> Bool
 | .non=>true
 | .bl _=>true
 | .int _=>true
 | .str _=>true
 | _=>false
def eqV : V -> V -> Bool
 | .non,.non=>true
 | .bl a,.bl b=>a == b
 | .bl a,.int b=>(if a then 1 else 0) == b
 | .int a,.bl b=>a == (if b then 1 else 0)
 | .int a,.int b=>a == b
 | .str a,.str b=>a == b
 | _,_=>false
theorem sq4 {A : Around} {s : Shared} {y x : V} {u v : Value} (ry : RelV y u) (rx : RelV x v) (fy : flatV y = true) (fx : flatV x = true) : SeqAt.EqAt A s u v (eqV y x) := by
 cases y with
 | non =>
  cases ry
  cases x with
  | non=>cases rx; exact SeqAt.EqAt.same _
  | bl b=>cases rx; exact SeqAt.EqAt.none_bool b
  | int b=>obtain ⟨t,rfl⟩ := rx; exact SeqAt.EqAt.none_int b t
  | str b=>obtain ⟨t,rfl⟩ := rx; exact SeqAt.EqAt.none_str b t
  | _=>exact absurd (show false = true from fx) Bool.false_ne_true
 | bl a =>
  cases ry
  cases x with
  | non=>cases rx; exact SeqAt.EqAt.bool_none a
  | bl b=>cases rx; exact SeqAt.EqAt.bool_bool a b
  | int b=>obtain ⟨t,rfl⟩ := rx; exact SeqAt.EqAt.bool_int a b t
  | str b=>obtain ⟨t,rfl⟩ := rx; exact SeqAt.EqAt.bool_str a b t
  | _=>exact absurd (show false = true from fx) Bool.false_ne_true
 | int a =>
  obtain ⟨t',rfl⟩ := ry
  cases x with
  | non=>cases rx; exact SeqAt.EqAt.int_none a t'
  | bl b=>cases rx; exact SeqAt.EqAt.int_bool a t' b
  | int b=>obtain ⟨t,rfl⟩ := rx; exact SeqAt.EqAt.int_int a t' b t
  | str b=>obtain ⟨t,rfl⟩ := rx; exact SeqAt.EqAt.int_str a t' b t
  | _=>exact absurd (show false = true from fx) Bool.false_ne_true
 | str a =>
  obtain ⟨t',rfl⟩ := ry
  cases x with
  | non=>cases rx; exact SeqAt.EqAt.str_none a t'
  | bl b=>cases rx; exact SeqAt.EqAt.str_bool a t' b
  | int b=>obtain ⟨t,rfl⟩ := rx; exact SeqAt.EqAt.str_int a t' b t
  | str b=>obtain ⟨t,rfl⟩ := rx; exact SeqAt.EqAt.str_str a t' b t
  | _=>exact absurd (show false = true from fx) Bool.false_ne_true
 | _=>exact absurd (show false = true from fy) Bool.false_ne_true
def eqU (x : V) (u : Value) : Bool := match u with
 | .none=>eqV .non x
 | .bool b=>eqV (.bl b) x
 | .int i _=>eqV (.int i) x
 | .str z _=>eqV (.str z) x
 | _=>false
theorem pq2 {x y : V} {u : Value} (r : RelV y u) (f : flatV y = true) : eqU x u = eqV y x := by
 cases y with
 | non=>cases r; rfl
 | bl b=>cases r; rfl
 | int i=>obtain ⟨t,rfl⟩ := r; rfl
 | str z=>obtain ⟨t,rfl⟩ := r; rfl
 | _=>exact absurd (show false = true from f) Bool.false_ne_true
theorem hqY {x : V} : ∀ {xs : List V} {us : List Value},Vals xs us -> xs.all flatV = true -> us.any (eqU x) = xs.any fun y=>eqV y x
 | _,_,.nil,_=>rfl
 | y :: xs,u :: us,.cons r t,f=>by
  rw [List.all_cons,Bool.and_eq_true] at f
  rw [List.any_cons,List.any_cons,pq2 r f.1,hqY t f.2]
theorem fq7 {A : Around} {s : Shared} {x : V} {v : Value} (rx : RelV x v) (fx : flatV x = true) : ∀ {xs : List V} {us : List Value},Vals xs us -> xs.all flatV = true -> ∀ u ∈ us,SeqAt.EqAt A s u v (eqU x u)
 | _,_,.nil,_=>fun u hu=>by cases hu
 | y :: xs,u :: us,.cons r t,f=>fun u' hu=>by
  rw [List.all_cons,Bool.and_eq_true] at f
  rcases List.mem_cons.mp hu with rfl | hu
  ·rw [pq2 r f.1]; exact sq4 r rx f.1 fx
  ·exact fq7 rx fx t f.2 u' hu
def inV (x : V) (xs : List V) : Bool := xs.any fun y=>eqV y x
def rIn (K : PySem.W.Frag) (neg : Bool) : R2 := fun x y H Q=>∃ p xs,y = .ref p /\ (SqL K H p xs \/ SqT K H p xs) /\ flatV x = true /\ xs.all flatV = true /\ Q (.bl (if neg then !inV x xs else inV x xs)) H
theorem nq4 : OpR X (compareOp .In) (rIn X.K false) := by
 intro pins s σ H x y v u Q I rx ry h
 obtain ⟨p,xs,rfl,hq,fx,fs,q⟩ := h
 cases ry
 rcases hq with hq | hq
 ·obtain ⟨its,r,pl,hz⟩ := I.list hq
  refine SeqAt.in_listAt (eqU x) pl.isList (fun w hw=>fq7 rx fx r fs w (by simpa using hw)) ⟨.bl _,H,I,rfl,?_⟩
  rw [show its.toArray.any (eqU x) = its.any (eqU x) by simp,hqY r fs]
  exact q
 ·obtain ⟨its,r,pl,hz⟩ := I.tuple hq
  refine SeqAt.in_tupleAt (eqU x) pl (fun w hw=>fq7 rx fx r fs w (by simpa using hw)) ⟨.bl _,H,I,rfl,?_⟩
  rw [show its.toArray.any (eqU x) = its.any (eqU x) by simp,hqY r fs]
  exact q
theorem kqt : OpR X (compareOp .NotIn) (rIn X.K true) := by
 intro pins s σ H x y v u Q I rx ry h
 obtain ⟨p,xs,rfl,hq,fx,fs,q⟩ := h
 cases ry
 rcases hq with hq | hq
 ·obtain ⟨its,r,pl,hz⟩ := I.list hq
  refine SeqAt.notIn_listAt (eqU x) pl.isList (fun w hw=>fq7 rx fx r fs w (by simpa using hw)) ⟨.bl _,H,I,rfl,?_⟩
  rw [show its.toArray.any (eqU x) = its.any (eqU x) by simp,hqY r fs]
  exact q
 ·obtain ⟨its,r,pl,hz⟩ := I.tuple hq
  refine SeqAt.notIn_tupleAt (eqU x) pl (fun w hw=>fq7 rx fx r fs w (by simpa using hw)) ⟨.bl _,H,I,rfl,?_⟩
  rw [show its.toArray.any (eqU x) = its.any (eqU x) by simp,hqY r fs]
  exact q
theorem kqu : CallR X (.builtin "len") (fun xs H Q=>∃ p ys,xs = [.ref p] /\ (SqL X.K H p ys \/ SqT X.K H p ys) /\ Q (.int ys.length) H) := by
 intro pins s σ H xs us Q I r h
 obtain ⟨p,ys,rfl,hq,q⟩ := h
 obtain ⟨u,rfl,rx⟩ := vals1 r
 cases rx
 have hn := line63
 rcases hq with hq | hq
 ·obtain ⟨its,r',pl,hz⟩ := I.list hq
  have hlen := r'.length
  exact Calls.call_len_list pl.isList (by simp only [List.size_toArray] <;> omega) ⟨.int ys.length,H,I.tok _,⟨s.toks + 1,by rw [List.size_toArray,hlen]⟩,q⟩
 ·obtain ⟨its,r',pl,hz⟩ := I.tuple hq
  have hlen := r'.length
  exact len_tuple pl (by simp only [List.size_toArray] <;> omega) ⟨.int ys.length,H,I.tok _,⟨s.toks + 1,by rw [List.size_toArray,hlen]⟩,q⟩
theorem kqQ : CallR X (.builtin "len") (fun xs H Q=>∃ z,xs = [.str z] /\ z.length <= sizeLine /\ Q (.int z.length) H) := by
 intro pins s σ H xs us Q I r h
 obtain ⟨z,rfl,hz,q⟩ := h
 obtain ⟨u,rfl,t,rfl⟩ := vals1 r
 have hn := line63
 exact len_str (by omega) ⟨.int z.length,H,I.tok _,⟨_,rfl⟩,q⟩
theorem kqF : CallR X (.type "list") (fun xs H Q=>∃ p ys,xs = [.ref p] /\ (SqL X.K H p ys \/ SqT X.K H p ys) /\ ∀ l,H l = none -> Q (.ref l) (upd H l (.lst ys))) := by
 intro pins s σ H xs us Q I r h
 obtain ⟨p,ys,rfl,hq,q⟩ := h
 obtain ⟨u,rfl,rx⟩ := vals1 r
 cases rx
 have fin : ∀ (its : List Value),Vals ys its -> ys.length <= sizeLine -> ∀ (h' : Heap) (c' : Nat),(∀ b o',s.heap.get? b = some o' -> h'.get? b = some o') ->
   h'.get? s.heap.objs.size = some { cls := .type "list", dict := none,data := .seq its.toArray c',slots := #[] } -> EP X pins σ Q (.ref s.heap.objs.size) { s with heap := h' } := fun its r' hz h' c' kp e =>
  ⟨.ref s.heap.objs.size,_,I.laid (t' := s.toks) kp (Nat.le_refl _) (show ObjOk X.prog X.w _ h' _ (.lst ys) from ⟨hz,its,c',r',e⟩),rfl,q _ (I.hok.fresh (Nat.le_refl _))⟩
 rcases hq with hq | hq
 ·obtain ⟨its,r',pl,hz⟩ := I.list hq
  have hlen := r'.length
  obtain ⟨o,ho,hc,n,hd⟩ := pl.isList
  exact call_list_seq p (.inl rfl) ho hc hd (fun h' c' kp e=>fin its r' hz h' c' kp e) (by simp only [List.size_toArray] <;> omega)
 ·obtain ⟨its,r',pl,hz⟩ := I.tuple hq
  have hlen := r'.length
  obtain ⟨o,ho,hc,n,hd⟩ := pl
  exact call_list_seq p (.inr rfl) ho hc hd (fun h' c' kp e=>fin its r' hz h' c' kp e) (by simp only [List.size_toArray] <;> omega)
theorem fqF : CallR X (.type "tuple") (fun xs H Q=>∃ p ys,xs = [.ref p] /\ ((SqL X.K H p ys /\ ∀ l,H l = none -> Q (.ref l) (upd H l (.tup ys))) \/ (SqT X.K H p ys /\ Q (.ref p) H))) := by
 intro pins s σ H xs us Q I r h
 obtain ⟨p,ys,rfl,h⟩ := h
 obtain ⟨u,rfl,rx⟩ := vals1 r
 cases rx
 rcases h with ⟨hq,q⟩ | ⟨hq,q⟩
 ·obtain ⟨its,r',pl,hz⟩ := I.list hq
  have hlen := r'.length
  refine call_tuple_list pl.isList (fun h' kp=>?_) (by simp only [List.size_toArray] <;> omega)
  have I1 : Inv X pins σ H { s with heap := h' } := I.kept (t' := s.toks) kp
  have I2 : Inv X pins σ (upd H h'.objs.size (.tup ys)) { s with heap := h'.push { cls := .type "tuple", data := .seq its.toArray } } :=
   I1.laid (t' := s.toks) (fun b o e=>Heap.get?_push_of_some _ e) (Nat.le_refl _) (show ObjOk X.prog X.w _ _ _ (.tup ys) from ⟨hz,its,r',IsTup.new _ _⟩)
  exact ⟨.ref h'.objs.size,_,I2,rfl,q _ (I1.hok.fresh (Nat.le_refl _))⟩
 ·obtain ⟨its,r',pl,hz⟩ := I.tuple hq
  exact call_tuple_same pl ⟨.ref p,H,I,rfl,q⟩
def tyV (K : PySem.W.Frag) (T : String) (x : V) (H : Hp) : Prop := match x with
 | .str _=>T = "str"
 | .int _=>T = "int"
 | .ref p=>(T = "list" /\ ∃ xs,SqL K H p xs) \/ (T = "tuple" /\ ∃ o,K.lookup p = some o /\ o.cls = .type "tuple" /\ o.dict = none) \/
   (T = "dict" /\ ((∃ kvs,H p = some (.dK kvs)) \/ ∃ kvs,H p = some (.dT kvs))) \/ (T = "set" /\ ∃ S n,H p = some (.set S n))
 | _=>False
theorem qqc {pins : List (Addr × Obj)} {σ : St} {H : Hp} {s : Shared} {T : String} {x : V} {v : Value} (I : Inv X pins σ H s) (r : RelV x v) (ty : tyV X.K T x H) :
  s.TypeIs v T /\ ∀ a,v = .ref a -> ∃ ob,s.heap.get? a = some ob /\ ob.dict = none := by
 cases x with
 | str z =>
  obtain ⟨t,rfl⟩ := r
  cases (show T = "str" from ty)
  exact ⟨typeIs_str s z t,fun _ e=>nomatch e⟩
 | int i =>
  obtain ⟨t,rfl⟩ := r
  cases (show T = "int" from ty)
  exact ⟨typeIs_int s i t,fun _ e=>nomatch e⟩
 | ref p =>
  cases r
  rcases ty with ⟨rfl,xs,hq⟩ | ⟨rfl,o,hk,hc,hd⟩ | ⟨rfl,hk⟩ | ⟨rfl,S,n,hk⟩
  ·obtain ⟨its,_,pl,_⟩ := I.list hq
   refine ⟨pl.isList.typeIs,fun a e=>?_⟩
   cases e
   obtain ⟨o,n,e,c,hd,_⟩ := pl
   exact ⟨o,e,hd⟩
  ·refine ⟨⟨o,I.kIn p o hk,hc⟩,fun a e=>?_⟩
   cases e
   exact ⟨o,I.kIn _ o hk,hd⟩
  ·have z : ∃ o,s.heap.get? p = some o /\ o.ExactDict := by
    rcases hk with ⟨kvs,hk⟩ | ⟨kvs,hk⟩
    ·obtain ⟨_,_,_,_,o,_,_,e,ex,_⟩ := I.hok p _ hk
     exact ⟨o,e,ex⟩
    ·obtain ⟨_,_,_,_,o,_,_,e,ex,_⟩ := I.hok p _ hk
     exact ⟨o,e,ex⟩
   obtain ⟨o,e,ex⟩ := z
   refine ⟨⟨o,e,ex.1⟩,fun a e2=>?_⟩
   cases e2
   exact ⟨o,e,ex.2.1⟩
  ·obtain ⟨o,_,_,_,e,ex,_⟩ := I.hok p _ hk
   refine ⟨⟨o,e,ex.1⟩,fun a e2=>?_⟩
   cases e2
   exact ⟨o,e,ex.2.1⟩
 | _=>exact False.elim ty
def tBM0 (K : PySem.W.Frag) (T : String) (r : V -> List V -> Hp -> VK -> Prop) (to : TE) : TE := fun σ H Q=>to σ H fun x H1=>tyV K T x H1 /\ r x [] H1 Q
def tBM (K : PySem.W.Frag) (T : String) (r : V -> List V -> Hp -> VK -> Prop) (to : TE) (t : TA) : TE := fun σ H Q=>to σ H fun x H1=>tyV K T x H1 /\ t σ H1 fun xs H2=>r x xs H2 Q
variable {o e : Expr} {es : List Expr} {to : TE} {t : TA} {name : Str} {apos cpos : Pos} {T id : String} {r : V -> List V -> Hp -> VK -> Prop}
theorem sq6 (pa : PlainAttrs T) (slot : Slot T name id) (hty : typeOf (.builtin id) = pure (.type "method_descriptor")) (hm : MtR X id r) (ho : PE X o to)
  (hbase : attributeBase o name X.env (eval o X.env) = eval o X.env := by rfl) (hline : (apos.endLine == cpos.line) = true := by rfl) : PE X (.Call (.Attribute o name apos) [] [] cpos) (tBM0 X.K T r to) := by
 intro pins s σ H Q I h
 refine wpAny_Call_method0_late hbase hline (thn (ho pins s σ H _ I h) fun v s1 W' => ?_)
 obtain ⟨x,H1,I1,r1,ty,q1⟩ := W'
 obtain ⟨h1,h2⟩ := qqc I1 r1 ty
 exact ⟨T,id,pa,slot,hty,h1,h2,Calls.callWith_builtin rfl (PySem.evalArgs_none (hm pins s1 σ H1 x [] v [] Q I1 r1 .nil q1))⟩
theorem tqD (pa : PlainAttrs T) (slot : Slot T name id) (hty : typeOf (.builtin id) = pure (.type "method_descriptor")) (hm : MtR X id r) (ho : PE X o to) (ha : PA X (e :: es) t)
  (hbase : attributeBase o name X.env (eval o X.env) = eval o X.env := by rfl)
  (hfew : ((backTo cpos (starEach (e :: es) X.env)).all (fun x=>!x.1) && (backToKw cpos (keywordEach [] X.env)).all (fun x=>x.1.isSome)
   && decide ((e :: es).length + ([] : List Keyword).length + (if ([] : List Keyword).isEmpty then 0 else 1) < 30)) = true := by rfl)
  (hline : (apos.endLine == cpos.line) = true := by rfl) (hs : starEach (e :: es) X.env = (false,eval e X.env) :: starEach es X.env := by rfl) (hplain : (backTo cpos (starEach es X.env)).any (·.1) = false := by rfl) :
  PE X (.Call (.Attribute o name apos) (e :: es) [] cpos) (tBM X.K T r to t) := by
 intro pins s σ H Q I h
 refine wpAny_Call_method_late hbase hfew hline rfl (thn (ho pins s σ H _ I h) fun v s1 W' => ?_)
 obtain ⟨x,H1,I1,r1,ty,q1⟩ := W'
 obtain ⟨h1,h2⟩ := qqc I1 r1 ty
 refine ⟨T,id,pa,slot,hty,h1,h2,?_⟩
 have hA := ha cpos pins s1 σ H1 _ I1 q1
 rw [hs] at hA ⊢
 refine Calls.callWith_builtin (by show (false || (backTo cpos (starEach es X.env)).any (·.1)) = false; rw [hplain] <;> rfl) (Calls.evalArgs_plain ?_)
 exact thn hA fun us s2 ⟨vs,H2,I2,r2,q2⟩=>hm pins s2 σ H2 x vs v us Q I2 r1 r2 q2
end
def MtM (X : Cx) (id : String) (r : V -> List V -> Hp -> VK -> Prop) : Prop :=
 ∀ (pins : List (Addr × Obj)) (s : Shared) (σ : St) (H : Hp) (x : V) (xs : List V) (v : Value) (us : List Value) (Q : VK),Inv X pins σ H s -> RelV x v -> Vals xs us -> r x xs H Q ->
  wpAny (model X.prog X.w) X.A (call (.builtin id) (v :: us)) (EP X pins σ Q) X.xe s
theorem Vals.one : ∀ {x : V} {us : List Value},Vals [x] us -> ∃ u,us = [u] /\ RelV x u
 | _,_,.cons r .nil=>⟨_,rfl,r⟩
theorem Vals.zero : ∀ {us : List Value},Vals [] us -> us = []
 | _,.nil=>rfl
theorem Vals.eraseIdx : ∀ {xs : List V} {us : List Value} (i : Nat),Vals xs us -> Vals (xs.eraseIdx i) (us.eraseIdx i)
 | _,_,_,.nil=>.nil
 | _,_,0,.cons _ t=>t
 | _,_,i + 1,.cons r t=>.cons r (Vals.eraseIdx i t)
theorem Vals.reverse {xs : List V} {us : List Value} (h : Vals xs us) : Vals xs.reverse us.reverse := by
 induction h with
 | nil=>exact .nil
 | cons r t ih=>rw [List.reverse_cons,List.reverse_cons]; exact Vals.append ih (.cons r .nil)
theorem Vals.rep {xs : List V} {us : List Value} (h : Vals xs us) : ∀ k : Nat,Vals (List.replicate k xs).flatten (List.replicate k us).flatten
 | 0=>.nil
 | k + 1=>by
  rw [List.replicate_succ,List.replicate_succ,List.flatten_cons,List.flatten_cons]
  exact Vals.append h (Vals.rep h k)
theorem kqe {α : Type} : ∀ (l : List α) (i : Nat),(l.eraseIdx i).length <= l.length
 | [],_=>Nat.le_refl _
 | _ :: _,0=>Nat.le_succ _
 | _ :: r,i + 1=>Nat.succ_le_succ (kqe r i)
theorem gqt (its : List Value) : ∀ (k : Nat) (acc : List Value),
  List.foldl (fun x1 x2=>x1 ++ x2) acc.toArray (List.replicate k its.toArray) = (acc ++ (List.replicate k its).flatten).toArray
 | 0,acc=>by simp
 | k + 1,acc=>by
  have e : acc.toArray ++ its.toArray = (acc ++ its).toArray := by simp
  have e2 : (acc ++ its) ++ (List.replicate k its).flatten = acc ++ (List.replicate (k + 1) its).flatten := by
   rw [List.replicate_succ,List.flatten_cons,List.append_assoc]
  rw [<- e2,<- gqt its k (acc ++ its),<- e,List.replicate_succ,List.foldl_cons]
section
variable {X : Cx} {pins : List (Addr × Obj)} {σ : St} {H : Hp} {s : Shared} {l b : Addr} {xs ys zs : List V}
theorem Inv.lset {its its' : List Value} {n : Nat} {f : Array Value -> Array Value} {t' : Nat} (I : Inv X pins σ H s) (hH : H l = some (.lst xs))
  (e : s.heap.get? l = some { cls := .type "list", data := .seq its.toArray n }) (hf : f its.toArray = its'.toArray) (hv : Vals ys its') (hz : ys.length <= sizeLine) :
  Inv X pins σ (upd H l (.lst ys)) { s with heap := s.heap.update l (Obj.mapSeq f),toks := t' } := by
 have q := PySem.IsL.update e f
 rw [hf] at q
 refine I.write (x := l) (e := l) (by rw [hH]; exact trivial) (.inl rfl) (fun b' u hb hu=>(Heap.get?_update_other s.heap (Obj.mapSeq f) (Ne.symm hb)).trans hu) ⟨_,q⟩ ?_
 exact ⟨hz,its',_,hv,q⟩
theorem Inv.lnew {its : List Value} {t' : Nat} (I : Inv X pins σ H s) (hv : Vals ys its) (hz : ys.length <= sizeLine) :
  Inv X pins σ (upd H s.heap.objs.size (.lst ys)) { s with heap := s.heap.push { cls := .type "list", data := .seq its.toArray },toks := t' } :=
 I.laid (fun _ _ q=>Heap.get?_push_of_some _ q) (Nat.le_refl _) ⟨hz,its,0,hv,Heap.get?_push_size _ rfl⟩
theorem Inv.fresh (I : Inv X pins σ H s) : H s.heap.objs.size = none := I.hok.fresh (Nat.le_refl _)
theorem Inv.lstM (I : Inv X pins σ H s) (hH : H l = some (.lst xs)) : xs.length <= sizeLine /\ ∃ (its : List Value) (n : Nat),Vals xs its /\ xs.length = its.length /\ s.heap.get? l = some { cls := .type "list", data := .seq its.toArray n } := by
 obtain ⟨z,its,n,r,e⟩ := I.hok l _ hH
 exact ⟨z,its,n,r,r.length,e⟩
theorem notLongL {n : Nat} (h : n <= sizeLine) : Builtin.List.listTooLong n = false := by
 unfold Builtin.List.listTooLong
 exact decide_eq_false (by omega)
end
section
variable {X : Cx}
def rAppend : V -> List V -> Hp -> VK -> Prop := fun x vs H Q=>∃ l xs y,x = .ref l /\ vs = [y] /\ H l = some (.lst xs) /\ xs.length < sizeLine /\ Q .non (upd H l (.lst (xs ++ [y])))
theorem aq2 : MtM X "list.append" rAppend := by
 intro pins s σ H x vs v us Q I rx rv h
 obtain ⟨l,xs,y,rfl,rfl,hH,hz,q⟩ := h
 cases rx
 obtain ⟨u,rfl,ru⟩ := rv.one
 obtain ⟨z,its,n,r,hl,e⟩ := I.lstM hH
 refine call_meets F.slot_list_append ⟨_,e,rfl⟩ F.entry_list_append (F.args_list_append_2 _ _) (PySem.list_append l its.toArray n u (by rw [List.size_toArray]; omega)) ⟨e,?_⟩
 refine ⟨.non,_,I.lset (its' := its ++ [u]) hH e (by simp) (r.append (.cons ru .nil)) ?_,rfl,q⟩
 rw [List.length_append,List.length_singleton]
 omega
def rExtend : V -> List V -> Hp -> VK -> Prop := fun x vs H Q=>∃ l b xs zs,x = .ref l /\ vs = [.ref b] /\ H l = some (.lst xs) /\ H b = some (.lst zs) /\ xs.length + zs.length <= sizeLine /\ Q .non (upd H l (.lst (xs ++ zs)))
theorem oqa : MtM X "list.extend" rExtend := by
 intro pins s σ H x vs v us Q I rx rv h
 obtain ⟨l,b,xs,zs,rfl,rfl,hH,hB,hz,q⟩ := h
 cases rx
 obtain ⟨u,rfl,ru⟩ := rv.one
 cases ru
 obtain ⟨z,its,n,r,hl,e⟩ := I.lstM hH
 obtain ⟨z2,its2,n2,r2,hl2,e2⟩ := I.lstM hB
 have hsz : its.toArray.size + its2.toArray.size <= sizeLine := by rw [List.size_toArray,List.size_toArray]; omega
 have hlong : ¬ (!its.toArray.isEmpty && Builtin.List.listTooLong (its.toArray.size + its2.toArray.size)) = true := by
  rw [notLongL hsz,Bool.and_false]
  exact Bool.false_ne_true
 refine call_meets F.slot_list_extend ⟨_,e,rfl⟩ F.entry_list_extend (F.args_list_extend_2 _ _)
  (AutoSeq1.list_extend_list_list_0 l its.toArray n b its2.toArray n2 hlong (by rw [List.size_toArray]; omega) (by omega)) ⟨e,e2,?_⟩
 refine ⟨.non,_,I.lset (its' := its ++ its2) hH e (by simp) (r.append r2) ?_,rfl,q⟩
 rw [List.length_append]
 omega
def rPop : V -> List V -> Hp -> VK -> Prop := fun x vs H Q=>∃ l xs y,x = .ref l /\ vs = [] /\ H l = some (.lst xs) /\ xs[xs.length - 1]? = some y /\ Q y (upd H l (.lst xs.dropLast))
def rPopAt : V -> List V -> Hp -> VK -> Prop := fun x vs H Q=>∃ l xs i k y,x = .ref l /\ vs = [.int i] /\ H l = some (.lst xs) /\ -(2 ^ 63) <= i /\ i < 2 ^ 63 /\ seqIndex? i xs.length = some k /\ xs[k]? = some y /\ Q y (upd H l (.lst (xs.eraseIdx k)))
theorem pqA : MtM X "list.pop" rPopAt := by
 intro pins s σ H x vs v us Q I rx rv h
 obtain ⟨l,xs,i,k,y,rfl,rfl,hH,h1,h2,hk,hy,q⟩ := h
 cases rx
 obtain ⟨u,rfl,ru⟩ := rv.one
 obtain ⟨t,rfl⟩ := ru
 obtain ⟨z,its,n,r,hl,e⟩ := I.lstM hH
 obtain ⟨w,hw,rw'⟩ := r.get hy
 refine call_meets F.slot_list_pop ⟨_,e,rfl⟩ F.entry_list_pop (F.args_list_pop_2 _ _)
  (MeetsSeq.list_pop_at l its.toArray n i t k w (fitsIndex_both h1 h2) (by rw [List.size_toArray,<- hl]; exact hk) (by rw [<- Array.getElem?_toList]; exact hw) (by rw [List.size_toArray]; omega)) ⟨e,?_⟩
 refine ⟨y,_,I.lset (its' := its.eraseIdx k) hH e ?_ (r.eraseIdx k) ?_,rw',q⟩
 ·show its.toArray.eraseIdxIfInBounds k = (its.eraseIdx k).toArray
  rw [List.eraseIdxIfInBounds_toArray]
 ·have := kqe xs k
  omega
def rReverse : V -> List V -> Hp -> VK -> Prop := fun x vs H Q=>∃ l xs,x = .ref l /\ vs = [] /\ H l = some (.lst xs) /\ Q .non (upd H l (.lst xs.reverse))
theorem mqE : MtM X "list.reverse" rReverse := by
 intro pins s σ H x vs v us Q I rx rv h
 obtain ⟨l,xs,rfl,rfl,hH,q⟩ := h
 cases rx
 have hus := rv.zero
 subst hus
 obtain ⟨z,its,n,r,hl,e⟩ := I.lstM hH
 refine call_meets F.slot_list_reverse ⟨_,e,rfl⟩ F.entry_list_reverse (F.args_list_reverse_1 _) (AutoSeq1.list_reverse_list_0 l its.toArray n (by rw [List.size_toArray]; omega)) ⟨e,?_⟩
 refine ⟨.non,_,I.lset (its' := its.reverse) hH e (by simp) r.reverse ?_,rfl,q⟩
 rw [List.length_reverse]
 omega
def rCat : R2 := fun x y H Q=>∃ l b xs zs,x = .ref l /\ y = .ref b /\ H l = some (.lst xs) /\ H b = some (.lst zs) /\ xs.length + zs.length <= sizeLine /\ ∀ p,H p = none -> Q (.ref p) (upd H p (.lst (xs ++ zs)))
theorem tqf : OpR X (binaryOp .Add) rCat := by
 intro pins s σ H x y v u Q I rx ry h
 obtain ⟨l,b,xs,zs,rfl,rfl,hH,hB,hz,q⟩ := h
 cases rx
 cases ry
 obtain ⟨z,its,n,r,hl,e⟩ := I.lstM hH
 obtain ⟨z2,its2,n2,r2,hl2,e2⟩ := I.lstM hB
 refine PySem.P.add_list e e2 ?_ (by rw [List.size_toArray,List.size_toArray]; omega)
 have ea : its.toArray ++ its2.toArray = (its ++ its2).toArray := by simp
 rw [ea]
 exact ⟨.ref _,_,I.lnew (t' := s.toks) (r.append r2) (by rw [List.length_append]; omega),rfl,q _ I.fresh⟩
def rRep : R2 := fun x y H Q=>∃ l k xs,x = .ref l /\ y = .int k /\ H l = some (.lst xs) /\ -(2 ^ 63) <= k /\ k < 2 ^ 63 /\ xs.length * k.toNat <= sizeLine /\
 ∀ p,H p = none -> Q (.ref p) (upd H p (.lst (List.replicate k.toNat xs).flatten))
theorem lqP {α : Type} (xs : List α) (k : Nat) : (List.replicate k xs).flatten.length = k * xs.length := by
 induction k with
 | zero=>simp
 | succ k ih=>rw [List.replicate_succ,List.flatten_cons,List.length_append,ih,Nat.succ_mul,Nat.add_comm]
theorem rqY : OpR X (binaryOp .Mult) rRep := by
 intro pins s σ H x y v u Q I rx ry h
 obtain ⟨l,k,xs,rfl,rfl,hH,h1,h2,hz,q⟩ := h
 cases rx
 obtain ⟨t,rfl⟩ := ry
 obtain ⟨z,its,n,r,hl,e⟩ := I.lstM hH
 have hlen : its.toArray.size * k.toNat <= sizeLine := by rw [List.size_toArray,<- hl]; exact hz
 have hcap : ¬ its.toArray.size * k.toNat > (2 ^ 63 - 1) / 8 := by
  have : (sizeLine : Nat) <= (2 ^ 63 - 1) / 8 := by decide
  omega
 have hfit : ¬ (!Builtin.List.listFitsIndex k) = true := by
  rw [fitsIndex_both h1 h2]
  exact Bool.false_ne_true
 have hlong : ¬ Builtin.List.listTooLong (its.toArray.size * k.toNat) = true := by
  rw [notLongL hlen]
  exact Bool.false_ne_true
 have hnew : List.foldl (fun x1 x2=>x1 ++ x2) #[] (List.replicate (if its.toArray.isEmpty = true then 0 else k.toNat) its.toArray) = (List.replicate k.toNat its).flatten.toArray := by
  have f0 : ∀ m : Nat,List.foldl (fun x1 x2=>x1 ++ x2) #[] (List.replicate m its.toArray) = (List.replicate m its).flatten.toArray := fun m=>by
   have := gqt its m []
   rw [List.nil_append] at this
   exact this
  rw [f0]
  cases its with
  | nil=>simp
  | cons a r' => rw [if_neg (by simp)]
 refine wpAny_binaryOp_repeat_ref (T := "list") (U := "int") (by decide) ⟨_,e,rfl⟩ (fun s' => typeIs_int s' k t) noFill_list_mul F.fills_int_mul F.slot_int_rmul repeat_list F.slot_int_index.lookup
  (call_meets F.slot_int_rmul (typeIs_int s k t) F.entry_int_rmul (F.args_int_rmul_2 _ _) (int___rmul___int_list k t l its.toArray n)
   ⟨e,rfl,⟨_,e,rfl⟩,call_meets F.slot_list_mul ⟨_,e,rfl⟩ F.entry_list_mul (F.args_list_mul_2 _ _) (AutoListH.list___mul___list_int_3 l its.toArray n k t hfit hcap hlong) ⟨e,?_⟩⟩)
 rw [hnew]
 exact ⟨.ref _,_,I.lnew (t' := s.toks) (r.rep k.toNat) (by rw [lqP,Nat.mul_comm]; exact hz),rfl,q _ I.fresh⟩
end
section
variable {prog : Program} {w : World} {A : Around} {E : Value -> Shared -> Prop} {s : Shared}
set_option maxRecDepth 100000 in
end
section
variable {X : Cx}
end
end L2
namespace Att
open PySem PySem.W PySem.Calls PyProof.Rows
theorem hq5 {P : Params} {h : Heap} : ∀ (ns : List Int) (vs : List Value),WellAll P h vs (ns.map WData.int) -> IntsAre vs ns := by
 intro ns
 induction ns with
 | nil =>
  intro vs w
  rw [List.map_nil] at w
  cases w
  exact .nil
 | cons n ns ih =>
  intro vs w
  rw [List.map_cons] at w
  cases w with
  | cons a b =>
   cases a
   exact .cons _ _ (ih _ b)
theorem nqS {l : OpenLaw} {n : Nat} (hn : l.most = some n) {P : Params} {h : Heap} {args : List WData} {vals : List Value}
  (hpre : l.row.toRowW.claim.pre args = true) (hwl : WellAll P h vals args) :
  ∃ a vs ns,vals = [Value.ref a] /\ args = [WData.list (ns.map WData.int)] /\ h.get? a = some { cls := .type "list", data := .seq vs.toArray } /\ IntsAre vs ns /\ ns.length <= n := by
 have hsh : WShape.hasAll [] args [.list .int] = true := (pre_splitW hpre).1
 have hc : l.pre.holds [] { args := args } = true := (pre_splitW hpre).2
 obtain ⟨d,r,rfl,h1,h2⟩ := hasAllW_cons hsh
 obtain rfl := hasAllW_nil h2
 obtain ⟨xs,rfl,h3⟩ := hasW_list h1
 obtain ⟨ns,rfl⟩ := items_int h3
 have hlen : ns.length <= n := by
  unfold OpenLaw.pre at hc
  have h4 : (WTm.not (.lt (.lit (.int (n : Int))) (.len (.arg 0)))).holds [] { args := [.list (ns.map .int)] } = true := by
   have h4 := (holds_andW hc).1
   rw [hn] at h4
   exact h4
  have h5 := condW_of h4 (w_not (w_lt w_lit (w_len_list (w_arg rfl))))
  rw [List.length_map] at h5
  refine Nat.le_of_not_lt fun q=>?_
  have q' : (n : Int) < ((ns.length : Nat) : Int) := by omega
  first
   | (rw [decide_eq_true q'] at h5; exact absurd h5 (by decide))
   | (simp at h5; omega)
 cases hwl with
 | cons w1 w2 =>
  cases w2
  cases w1 with
  | list ho hall=>exact ⟨_,_,ns,rfl,rfl,ho,hq5 ns _ hall,hlen⟩
theorem oqC (l : OpenLaw) (args : List WData) : l.row.toRowW.claim.post args (.bool true) args = true :=
 postW_of (r := l.row.toRowW) (X := (true == true))
  (show WShape.has [] (.bool true) .bool = true by first | rfl | decide | simp [WShape.has,WShape.arms,WShape.armsAll])
  (show (WTm.eq .res (.lit (.bool true))).value [] { args := args,res := some (.bool true),after := args } = some (.bool (true == true)) from w_eq_bool (w_res rfl) w_lit) rfl
theorem attach_call {l : OpenLaw} {n : Nat} {q : Program} {loose : List Str} {XP : (Str -> Option Value) -> Heap -> Prop} {YP : World -> Heap -> Prop} {d : DefRec}
  (hn : l.most = some n) (hdf : d.params.defaults = [])
  (call : ∀ (w : World) (s₀ s₁ : Shared) (mg mb : Str -> Option Value) (fa : Addr) (o : Obj) (pm cd doc : Value) (a : Addr) (vs : List Value) (ns : List Int),
   Ground q loose [] XP w s₀ mg mb s₁.heap -> YP w s₁.heap ->
   s₁.heap.get? fa = some o -> o.data = .func (docDef d.name d.params d.body d.scope pm cd doc) -> s₁.heap.CodeRec cd d.name -> mg d.name = some (.ref fa) ->
   s₁.heap.get? a = some { cls := .type "list", data := .seq vs.toArray } -> IntsAre vs ns -> ns.length <= n -> s₁.gens = #[] ->
   codeAny (model l.prog w) callerA (.call (.ref fa) ⟨[.ref a],[]⟩) (fun r s' => r = .ok (.ret (.bool true)) /\ OldK s₁.heap s'.heap /\ s'.os = s₁.os /\ AllBare s'.gens) s₁) :
  WalkO q loose XP YP l.row.toRowW d [] (fun f vs=>PySem.call f vs) := by
 intro w s₀ s₁ mg mb G Y fa o pm cd doc dV kV ho hd hcd hD hmg hg args vals as hpre hlay hrd hwl hlo
 obtain rfl : dV = .none := Dflts.none hD hdf
 obtain rfl : kV = .none := Dflts.noKw hD
 obtain ⟨a,vs,ns,rfl,rfl,hobj,hints,hlen⟩ := nqS hn hpre hwl
 refine enter_call (codeAny_mono (call w s₀ s₁ mg mb fa o pm cd doc a vs ns G Y ho (fd_plain hd) hcd hmg hobj hints hlen hg) fun r s' hq=>?_)
 obtain ⟨rfl,h2,h3,h4⟩ := hq
 exact ⟨.inl ⟨.bool true,.bool true,[],rfl,fun _=>rfl,.bool true,oqC l _,fun _=>⟨List.Pairwise.nil,fun _ hm=>(nomatch hm)⟩⟩,h2,h3,h4⟩
section
variable {prog : Program} {w : World} {A : Around} {E : Value -> Shared -> Prop} {s : Shared} {K : Frag}
def ledger (h : Heap) (L d : Addr) : List (Addr × Obj) := (List.range h.objs.size).filterMap fun a=>if a = L \/ a = d then none else (h.get? a).map fun o=>(a,o)
end
end Att
namespace L2
open PySem PySem.Spec PyProof.Rows
theorem kq8 : ∀ {vs : List Value} {ns : List Int},IntsAre vs ns -> Vals (ns.map V.int) vs
 | _,_,.nil=>.nil
 | _,_,.cons n t h=>.cons ⟨t,rfl⟩ (kq8 h)
def Only (H : Hp) : Prop := ∀ b,H b = none \/ ∃ o xs,H b = some (.frz o (.lst xs))
theorem oq1 {P : Program} {w : World} {K : PySem.W.Frag} {mg mb : Str -> Option Value} {CX : CXT} {k : Nat} {fa a : Addr} {fd : FuncData} {x : Str} {sp : Sp} {s₁ : Shared} {vs : List Value} {ns : List Int}
  (KX : K.In s₁.heap) (hns : s₁.heap.Ns mainGlobals mg) (hb : s₁.heap.Ns builtinsNs mb) (hbb : ∀ x : Str,x ≠ "__name__" -> mb x = bootBuiltins x) (hlim : s₁.heap.NoLimit) (hg : s₁.gens = #[])
  (ha : s₁.heap.get? a = some { cls := .type "list", data := .seq vs.toArray }) (hi : IntsAre vs ns) (hl : ns.length <= sizeLine) (hr : Room k callerA)
  (F : ∀ base : Heap,K.In base -> base.Ns mainGlobals mg -> FnOk P w K mg base CX k fa fd [x] sp) (hbind : ∀ (s : Shared) (u : Value),BindsTo s fd ⟨[u],[]⟩ [(x,u)])
  (hsp : ∀ H : Hp,Only H -> SqL K H a (ns.map V.int) -> sp [.ref a] H (fun v _=>v = .bl true) fun _ _ _=>False)
  (hCX : ∀ H e s',CX [] H s₁ (fun _ _ _=>False) e s' -> False) :
  codeAny (model P w) callerA (.call (.ref fa) ⟨[.ref a],[]⟩) (fun r s' => r = .ok (.ret (.bool true)) /\ OldK s₁.heap s'.heap /\ s'.os = s₁.os /\ AllBare s'.gens) s₁ := by
 have rv := kq8 hi
 have lenV := hi.length
 have core : ∀ H : Hp,Only H -> SqL K H a (ns.map V.int) -> HOk P w H s₁.heap -> (∀ b,H b ≠ none -> b = a) -> (H a ≠ none -> K.lookup a = none) ->
   codeAny (model P w) callerA (.call (.ref fa) ⟨[.ref a],[]⟩) (fun r s' => r = .ok (.ret (.bool true)) /\ OldK s₁.heap s'.heap /\ s'.os = s₁.os /\ AllBare s'.gens) s₁ := by
  intro H hO hS hok hA hK
  have base_of : ∀ {b : Addr} {o : Obj},s₁.heap.get? b = some o -> H b = none -> (hidT s₁.heap H).get? b = some o := fun e n=>oq4 e n
  have noA : ∀ {b : Addr} {o : Obj} {es : Array DictEntry} {ep : Nat},s₁.heap.get? b = some o -> o.data = .dict es ep -> H b = none := fun {b o es ep} e d=>by
   cases q : H b with
   | none=>rfl
   | some u =>
    have e' : b = a := hA b (by rw [q]; simp)
    subst e'
    rw [ha] at e; cases e
    have d' : Data.seq vs.toArray _ = Data.dict es ep := d
    cases d'
  have nsK : ∀ {b : Addr} {m : Str -> Option Value},s₁.heap.Ns b m -> (hidT s₁.heap H).Ns b m := fun {b m} ⟨o,es,ep,e,d,r⟩=>⟨o,es,ep,base_of e (noA e d),d,r⟩
  have hKb : K.In (hidT s₁.heap H) := fun b o e=>base_of (KX b o e) (by
   cases q : H b with
   | none=>rfl
   | some u =>
    have e' : b = a := hA b (by rw [q]; simp)
    subst e'
    rw [hK (by rw [q]; simp)] at e; cases e)
  have hM : Mod K mg (hidT s₁.heap H) := ⟨hKb,nsK hns,⟨mb,nsK hb,hbb⟩,let ⟨mc,h1,h2⟩ := hlim; ⟨mc,nsK h1,h2⟩⟩
  have e0 : Env0 P w K mg (hidT s₁.heap H) callerA [] s₁ H := ⟨rfl,hM,fun b o e=>qqE e,Nat.le_of_eq (nqR _ _),trivial,fun b hb=>absurd (show b ∈ ([] : List Addr) from hb) (by simp),hok,.of_eq hg⟩
  refine codeAny_mono ((F _ hKb (nsK hns)).run callerA [] s₁ H ⟨[.ref a],[]⟩ [.ref a] [.ref a] _ _ hr e0 (hbind s₁ (.ref a)) (.cons rfl .nil) (hsp H hO hS)) fun r s' h=>?_
  cases r with
  | error e=>exact (hCX H e s' h).elim
  | ok fl =>
   cases fl with
   | next=>exact False.elim h
   | brk=>exact False.elim h
   | cont=>exact False.elim h
   | ret u =>
    obtain ⟨v,H',os,bare,un,hok',r',q⟩ := h
    have q' : v = .bl true := q
    subst q'
    obtain rfl : u = Value.bool true := r'
    refine ⟨rfl,OldK.of_keep fun b o e=>?_,os,bare⟩
    cases q : H b with
    | none=>exact un.keep b o e q (by intro z; exact absurd (show b ∈ ([] : List Addr) from z) (by simp)) (by simp)
    | some u =>
     rcases hO b with z | ⟨ob,xs,z⟩
     ·rw [q] at z; cases z
     ·have z2 := un.frzs b ob _ z
      obtain ⟨e1,_⟩ := hok b _ z
      obtain ⟨e2,_⟩ := hok' b _ z2
      rw [e] at e1; cases e1
      exact e2
 cases hk : K.lookup a with
 | some o =>
  have e := KX a o hk
  rw [ha] at e
  cases e
  refine core (fun _=>none) (fun _=>.inl rfl) (.inr ⟨_,vs.toArray,_,hk,rfl,rfl,rfl,by rw [List.size_toArray,lenV]; exact hl,by simpa using rv⟩) (fun b u z=>by have z' : (none : Option HO) = some u := z; cases z') (fun b z=>absurd rfl z) fun z=>absurd rfl z
 | none =>
  refine core (fun b=>if b = a then some (.frz { cls := .type "list", data := .seq vs.toArray } (.lst (ns.map V.int))) else none) (fun b=>?_) (.inl (.inr ⟨{ cls := .type "list", data := .seq vs.toArray },if_pos rfl⟩)) (fun b u z=>?_) (fun b z=>?_) fun _=>hk
  ·by_cases hb : b = a
   ·exact .inr ⟨_,_,if_pos hb⟩
   ·exact .inl (if_neg hb)
  ·by_cases hb : b = a
   ·have z' := (if_pos hb).symm.trans z
    cases z'
    subst hb
    exact ⟨ha,by rw [List.length_map]; exact hl,vs,_,rv,ha⟩
   ·have z' := (if_neg hb).symm.trans z
    cases z'
  ·by_cases hb : b = a
   ·exact hb
   ·exact absurd (if_neg hb) z
abbrev KOf {K : PySem.W.Frag} {h : Heap} (_ : K.In h) : PySem.W.Frag := K
theorem qqQ {l : PySem.W.OpenLaw} {n k : Nat} {q : Program} {loose : List Str} {XP : (Str -> Option Value) -> Heap -> Prop} {YP : World -> Heap -> Prop} {d : DefRec} {K : Params -> PySem.W.Frag} {CX : World -> CXT} {sp : World -> Sp} {x : Str}
  (hn : l.most = some n) (hn2 : n <= sizeLine) (hdf : d.params.defaults = []) (hr : Room k callerA)
  (hY : ∀ (w : World) (h : Heap),YP w h -> (K w.params).In h)
  (F : ∀ (w : World) (mg : Str -> Option Value) (fa : Addr) (h : Heap),(K w.params).In h -> h.Ns mainGlobals mg -> mg d.name = some (.ref fa) ->
   ∃ fd : FuncData,(∀ (s : Shared) (u : Value),BindsTo s fd ⟨[u],[]⟩ [(x,u)]) /\
    ∀ base : Heap,(K w.params).In base -> base.Ns mainGlobals mg -> FnOk l.prog w (K w.params) mg base (CX w) k fa fd [x] (sp w))
  (hsp : ∀ (w : World) (H : Hp) (a : Addr) (ns : List Int),ns.length <= n -> Only H -> SqL (K w.params) H a (ns.map V.int) -> sp w [.ref a] H (fun v _=>v = .bl true) fun _ _ _=>False)
  (hCX : ∀ (w : World) (H : Hp) (s : Shared) (e : Value) (s' : Shared),CX w [] H s (fun _ _ _=>False) e s' -> False) :
  PySem.W.WalkO q loose XP YP l.row.toRowW d [] (fun f vs=>PySem.call f vs) := by
 refine Att.attach_call hn hdf fun w s₀ s₁ mg mb fa o pm cd doc a vs ns G Y ho hd hcd hmg hobj hints hlen hg=>?_
 have KX := hY w _ Y
 obtain ⟨fd,hb,hF⟩ := F w mg fa _ KX G.T.g hmg
 exact oq1 KX G.T.g G.T.b G.T.builtins G.T.nolimit hg hobj hints (Nat.le_trans hlen hn2) hr hF hb (fun H hO hS=>hsp w H a ns hlen hO hS) fun H e s' => hCX w H s₁ e s'
def inClass (s : Stmt) (j : Nat) : Stmt := match s with
 | .ClassDef _ _ _ body _ _ _ _ _ _ _=>body.getD j (.Pass ⟨0,0,0,0⟩)
 | _=>.Pass ⟨0,0,0,0⟩
def defArgs (s : Stmt) : Arguments := match s with
 | .FunctionDef _ a _ _ _ _ _ _ _ _=>a
 | _=>{ posonlyargs := [],args := [],vararg := none,kwonlyargs := [],kw_defaults := [],kwarg := none,defaults := [] }
def defBody (s : Stmt) : List Stmt := match s with
 | .FunctionDef _ _ b _ _ _ _ _ _ _=>b
 | _=>[]
def defScope (s : Stmt) : Scope := match s with
 | .FunctionDef _ _ _ _ _ _ sc _ _ _=>sc
 | _=>{ kind := .function,names := [],isGenerator := false,isCoroutine := false }
abbrev CX0 : CXT := fun _ _ _ _ _ _=>False
abbrev E0 : XK := fun _ _ _=>False
theorem pass0 {X : Cx} : Passes CX0 X E0 := fun _ _ _ _ _ _ _ h=>h.elim
structure Fun (K : PySem.W.Frag) (x qual : Str) (st : Stmt) (f : Addr) (fd : FuncData) : Prop where
 ex : ∃ (oc : Value) (od : Option Addr) (kV doc pm : Value) (an : Option Addr) (cdv ct : Value) (osl : Array (Option Value)),
  fd = PySem.W.fnOf x qual (defArgs st) (defBody st) (defScope st) .none kV doc pm an cdv ct /\ K.lookup f = some ⟨oc,od,.func fd,osl⟩ /\ PySem.W.codeIn K cdv qual = true
 kp : PySem.W.keepIn K (.ref f) = true
section
variable {P : Program} {w : World} {K : PySem.W.Frag} {mg : Str -> Option Value} {base : Heap}
theorem Fun.ok {x qual : Str} {st : Stmt} {f : Addr} {fd : FuncData} {N ps : List Str} {k : Nat} {sp : Sp} (F : Fun K x qual st f fd) (S : FnScope N ps (defScope st)) (len : ∀ vs H Q E,sp vs H Q E -> vs.length = ps.length)
  (hbody : ∀ (cdv : Value) (A : Around) (outer : List Env) (s : Shared) (H : Hp) (vs : List V) (Q : VK) (E : XK),Room k (A.deeper (envOfC qual (defScope st) s.heap.objs.size f cdv)) -> sp vs H Q E ->
   ∃ t,PSs (cxOf CX0 P w K mg base N qual (defScope st) f cdv A outer s H E).nox (defBody st) t /\ t { nx := fun _ H' => Q .non H',rt := Q } (start N vs) H) : FnOk P w K mg base CX0 (k + 1) f fd ps sp := by
 obtain ⟨oc,od,kV,doc,pm,an,cdv,ct,osl,rfl,lk,hcd⟩ := F.ex
 refine sqf lk hcd S len fun A outer s H vs Q E hr hsp=>?_
 obtain ⟨t,h,q⟩ := hbody cdv A outer s H vs Q E hr hsp
 exact ⟨t,h.nox,q⟩
theorem Fun.binds {x qual : Str} {st : Stmt} {f : Addr} {fd : FuncData} {ps : List Str} (F : Fun K x qual st f fd)
  (h : ∀ (kV doc pm : Value) (an : Option Addr) (cdv ct : Value) (us : List Value),us.length = ps.length -> bindArgs (PySem.W.fnOf x qual (defArgs st) (defBody st) (defScope st) .none kV doc pm an cdv ct) ⟨us,[]⟩ = pure (ps.zip us)) : Binds K fd ps [] := by
 obtain ⟨oc,od,kV,doc,pm,an,cdv,ct,osl,rfl,lk,hcd⟩ := F.ex
 exact .all (h kV doc pm an cdv ct)
theorem aqy {x qual : Str} {st : Stmt} {f : Addr} {oc : Value} {od an : Option Addr} {osl : Array (Option Value)} {kV doc pm cdv ct : Value} (l : K.lookup f = some ⟨oc,od,.func (PySem.W.fnOf x qual (defArgs st) (defBody st) (defScope st) .none kV doc pm an cdv ct),osl⟩)
  (c : PySem.W.codeIn K cdv qual = true) (k : PySem.W.keepIn K (.ref f) = true) : Fun K x qual st f (PySem.W.fnOf x qual (defArgs st) (defBody st) (defScope st) .none kV doc pm an cdv ct) := ⟨⟨oc,od,kV,doc,pm,an,cdv,ct,osl,rfl,l,c⟩,k⟩
end
section
variable {X : Cx}
theorem pv (i : Nat) {x : Str} {pos : Pos} (hN : X.N[i]? = some x := by rfl) (hv : Vis X.env.scope x := by first | exact Or.inl rfl | exact Or.inr (Or.inl rfl) | exact Or.inr (Or.inr rfl)) (hd : (x == ("__debug__" : Str)) = false := by decide)
  (hcd : (x == ("__classdict__" : Str)) = false := by decide) : PE X (.Name x pos) (tVar i) := rq9 hN hv hd hcd
end
theorem ite2 {c A B : Prop} [Decidable c] (h1 : c -> A) (h2 : ¬ c -> B) : if c then A else B := by
 by_cases h : c
 ·rw [if_pos h]
  exact h1 h
 ·rw [if_neg h]
  exact h2 h
def Same (H H' : Hp) : Prop := ∀ b o,H b = some o -> H' b = some o
theorem Same.refl (H : Hp) : Same H H := fun _ _ h=>h
theorem Same.trans {H H1 H2 : Hp} (a : Same H H1) (b : Same H1 H2) : Same H H2 := fun c o h=>b c o (a c o h)
theorem Same.seq {K : PySem.W.Frag} {H H' : Hp} {a : Addr} {xs : List V} (e : Same H H') (h : SqL K H a xs) : SqL K H' a xs := by
 rcases h with (h | ⟨o,h⟩) | h
 ·exact .inl (.inl (e _ _ h))
 ·exact .inl (.inr ⟨o,e _ _ h⟩)
 ·exact .inr h
end L2
set_option maxHeartbeats 4000000
namespace L2
open PySem PySem.Spec PyProof.Rows
def Its (z : Str) : It := ⟨fun i _=>i < z.length,fun i H x H' => H' = H /\ ∃ c,z.cps.toList[i]? = some c /\ x = .str ⟨#[c]⟩,fun i _=>z.length <= i⟩
theorem nqi {z : Str} {i : Nat} (h : i < z.length) : ∃ c,z.cps[i]? = some c /\ z.cps.toList[i]? = some c := by
 have h' : i < z.cps.size := h
 exact ⟨z.cps[i],by simp [h'],by simp [h']⟩
theorem mqq {z : Str} {i : Nat} (h : z.length <= i) : z.cps[i]? = none := by
 have h' : z.cps.size <= i := h
 simp [h']
theorem nq2 {P : Program} {w : World} {K : PySem.W.Frag} {tg : Expr} (it : Addr) (z : Str) (t : Tok) : Turn P w K tg (Its z) [it] it (fun i h=>h.IsStrIter it "str_ascii_iterator" z t i) where
 mem := by simp
 obj := fun i h st b hb=>by
  have e : b = it := by simpa using hb
  subst e
  obtain ⟨o,e,c,d⟩ := st
  exact ⟨o,e,fun v z=>by rw [d] at z; cases z⟩
 keep := fun i h h' st k=>by
  obtain ⟨o,e,r⟩ := st
  exact ⟨o,k it (by simp) o e,r⟩
 item := by
  intro X hP hw hK hc i pins s σ H E I hf st hg
  subst hP hw hK
  obtain ⟨c,h1,h2⟩ := nqi (z := z) (i := i) hg
  obtain ⟨f0,f1,f2,f3,f4,f5⟩ := hf it (by simp)
  refine wpAny_pyNext_ascii_item st h1 fun h' st' sb=>?_
  have I1 : Inv X pins σ H { s with heap := h',toks := s.toks + 1 } := I.turned (t' := s.toks + 1) (fun b o hb e=>(sb.2 b hb).trans e) f0 f1 f3 f4 f5
  obtain ⟨o,e,cl,d⟩ := id st'
  exact ⟨_,rfl,oqu (s := { s with heap := h',toks := s.toks + 1 }) e cl d (by decide) ⟨.str ⟨#[c]⟩,H,I1,⟨_,rfl⟩,⟨rfl,c,h2,rfl⟩,st',fun b hb=>(hf b hb).1⟩⟩
 done := by
  intro X hP hw hK hc i pins s σ H E I hf st hg
  subst hP hw hK
  obtain ⟨f0,f1,f2,f3,f4,f5⟩ := hf it (by simp)
  exact wpAny_pyNext_ascii_end (I.ok.hd hc) st (mqq hg) fun h' eb=>⟨rfl,I.turned (t' := s.toks) (fun b o hb e=>eb b o hb e) f0 f1 f3 f4 f5⟩
 self := fun _ _ _ _ _ st h=>wpAny_pyIter_striter_ascii st h
theorem oqA {P : Program} {w : World} {K : PySem.W.Frag} {tg : Expr} (it : Addr) (z : Str) (t : Tok) : Turn P w K tg (Its z) [it] it (fun i h=>h.IsStrIter it "str_iterator" z t i) where
 mem := by simp
 obj := fun i h st b hb=>by
  have e : b = it := by simpa using hb
  subst e
  obtain ⟨o,e,c,d⟩ := st
  exact ⟨o,e,fun v z=>by rw [d] at z; cases z⟩
 keep := fun i h h' st k=>by
  obtain ⟨o,e,r⟩ := st
  exact ⟨o,k it (by simp) o e,r⟩
 item := by
  intro X hP hw hK hc i pins s σ H E I hf st hg
  subst hP hw hK
  obtain ⟨c,h1,h2⟩ := nqi (z := z) (i := i) hg
  obtain ⟨f0,f1,f2,f3,f4,f5⟩ := hf it (by simp)
  refine wpAny_pyNext_wide_item st h1 fun h' st' sb=>?_
  have I1 : Inv X pins σ H { s with heap := h',toks := s.toks + 1 } := I.turned (t' := s.toks + 1) (fun b o hb e=>(sb.2 b hb).trans e) f0 f1 f3 f4 f5
  obtain ⟨o,e,cl,d⟩ := id st'
  exact ⟨_,rfl,oqu (s := { s with heap := h',toks := s.toks + 1 }) e cl d (by decide) ⟨.str ⟨#[c]⟩,H,I1,⟨_,rfl⟩,⟨rfl,c,h2,rfl⟩,st',fun b hb=>(hf b hb).1⟩⟩
 done := by
  intro X hP hw hK hc i pins s σ H E I hf st hg
  subst hP hw hK
  obtain ⟨f0,f1,f2,f3,f4,f5⟩ := hf it (by simp)
  exact wpAny_pyNext_wide_end (I.ok.hd hc) st (mqq hg) fun h' eb=>⟨rfl,I.turned (t' := s.toks) (fun b o hb e=>eb b o hb e) f0 f1 f3 f4 f5⟩
 self := fun _ _ _ _ _ st h=>wpAny_pyIter_striter_wide st h
section
variable {X : Cx} {tg : Expr}
def iStr (tl : TE) : TI := fun σ H R=>tl σ H fun x H1=>∃ z,x = .str z /\ R (Its z) H1
theorem nqw {l : Expr} {tl : TE} (hl : PE X l tl) : PI X tg l (iStr tl) := by
 intro pins s σ H R I h
 refine thn (hl pins s σ H _ I h) fun v s1 W' => ?_
 obtain ⟨x,H1,I1,r1,q1⟩ := W'
 obtain ⟨z,rfl,q⟩ := q1
 obtain ⟨t,rfl⟩ := r1
 have fp : ∀ b ∈ [s1.heap.objs.size],FpOk X pins H1 b := fun b hb=>by
  have e : b = s1.heap.objs.size := by simpa using hb
  subst e
  exact I1.fpOk (Nat.le_refl _) (I1.hok.fresh (Nat.le_refl _))
 cases ha : z.cps.all (· < 128)
 ·refine wpAny_pyIter_wide ha ?_
  exact ⟨s1.heap.objs.size,[s1.heap.objs.size],_,_,H1,rfl,I1.kept (t' := s1.toks) fun b o e=>Heap.get?_push_of_some _ e,oqA _ z t,⟨_,Heap.get?_push_size _ rfl,rfl,rfl⟩,fp,q⟩
 ·refine wpAny_pyIter_ascii ha ?_
  exact ⟨s1.heap.objs.size,[s1.heap.objs.size],_,_,H1,rfl,I1.kept (t' := s1.toks) fun b o e=>Heap.get?_push_of_some _ e,nq2 _ z t,⟨_,Heap.get?_push_size _ rfl,rfl,rfl⟩,fp,q⟩
end
section
variable {X : Cx}
def rSlS : V -> Option Int -> Option Int -> Hp -> VK -> Prop := fun x lo hi H Q=>∃ z,x = .str z /\ z.length <= sizeLine /\ Q (.str (Txt.slice z lo hi)) H
theorem sqQ : SlR X rSlS := by
 intro pins s σ H x v vl vu lo hi sl Q I rx hs pl pu h
 obtain ⟨z,rfl,hz,q⟩ := h
 obtain ⟨t,rfl⟩ := rx
 refine ⟨"str", _,F.slot_str_getitem.lookup,typeIs_str _ _ _,?_⟩
 obtain ⟨o,ho,hc,hd⟩ := hs
 cases pl with
 | none =>
  cases pu with
  | none=>exact wpAny_getItem_str_slice (l := none) (u := none) (st := none) ⟨o,ho,hc,hd⟩ rfl (post_val_or_str ⟨Nat.le_trans (Txt.slice_le z none none) hz,fun t' k=>⟨.str (Txt.slice z none none),H,I.tok k,⟨t',rfl⟩,q⟩⟩)
  | int j uj=>exact wpAny_getItem_str_slice (l := none) (u := some (j,uj)) (st := none) ⟨o,ho,hc,hd⟩ rfl (post_val_or_str ⟨Nat.le_trans (Txt.slice_le z none (some j)) hz,fun t' k=>⟨.str (Txt.slice z none (some j)),H,I.tok k,⟨t',rfl⟩,q⟩⟩)
 | int i ui =>
  cases pu with
  | none=>exact wpAny_getItem_str_slice (l := some (i,ui)) (u := none) (st := none) ⟨o,ho,hc,hd⟩ rfl (post_val_or_str ⟨Nat.le_trans (Txt.slice_le z (some i) none) hz,fun t' k=>⟨.str (Txt.slice z (some i) none),H,I.tok k,⟨t',rfl⟩,q⟩⟩)
  | int j uj=>exact wpAny_getItem_str_slice (l := some (i,ui)) (u := some (j,uj)) (st := none) ⟨o,ho,hc,hd⟩ rfl (post_val_or_str ⟨Nat.le_trans (Txt.slice_le z (some i) (some j)) hz,fun t' k=>⟨.str (Txt.slice z (some i) (some j)),H,I.tok k,⟨t',rfl⟩,q⟩⟩)
def rSl (K : PySem.W.Frag) : V -> Option Int -> Option Int -> Hp -> VK -> Prop := fun x lo hi H Q=>rSlL K x lo hi H Q \/ rSlS x lo hi H Q
theorem sqr : SlR X (rSl X.K) := oqb.or sqQ
def rIndex : V -> List V -> Hp -> VK -> Prop := fun x vs H Q=>match x,vs with
 | .str z,[.str y] => ∃ i r,Builtin.Str.occurrences z y 0 z.length 1 = i :: r /\ Q (.int (i : Nat)) H
 | _,_=>False
theorem oqZ {z y : Str} {H : Hp} {Q : VK} : (rIndex (.str z) [.str y] H Q) = (∃ i r,Builtin.Str.occurrences z y 0 z.length 1 = i :: r /\ Q (.int (i : Nat)) H) := rfl
def rUpper : V -> List V -> Hp -> VK -> Prop := fun x vs H Q=>match x,vs with
 | .str z,[] => (∀ c ∈ z.cps.toList,c < 128) /\ z.length <= 1000000 /\ Q (.str ⟨z.cps.map up1⟩) H
 | _,_=>False
theorem tqh {z : Str} {H : Hp} {Q : VK} : (rUpper (.str z) [] H Q) = ((∀ c ∈ z.cps.toList,c < 128) /\ z.length <= 1000000 /\ Q (.str ⟨z.cps.map up1⟩) H) := rfl
def rLower : V -> List V -> Hp -> VK -> Prop := fun x vs H Q=>match x,vs with
 | .str z,[] => (∀ c ∈ z.cps.toList,c < 128) /\ z.length <= 1000000 /\ Q (.str ⟨z.cps.map lo1⟩) H
 | _,_=>False
theorem sqX {z : Str} {H : Hp} {Q : VK} : (rLower (.str z) [] H Q) = ((∀ c ∈ z.cps.toList,c < 128) /\ z.length <= 1000000 /\ Q (.str ⟨z.cps.map lo1⟩) H) := rfl
def rAlnum : V -> List V -> Hp -> VK -> Prop := fun x vs H Q=>match x,vs with
 | .str z,[] => Q (.bl (Txt.isalnum z)) H
 | _,_=>False
theorem tqd {z : Str} {H : Hp} {Q : VK} : (rAlnum (.str z) [] H Q) = (Q (.bl (Txt.isalnum z)) H) := rfl
def rJoin (K : PySem.W.Frag) : V -> List V -> Hp -> VK -> Prop := fun x vs H Q=>∃ z p ys,x = .str z /\ vs = [.ref p] /\ SqL K H p (ys.map V.str) /\ (ys.map (·.length)).sum + ys.length * z.length <= 16777216 /\ Q (.str (Txt.join z ys)) H
def rIsi (K : PySem.W.Frag) : List V -> Hp -> VK -> Prop := fun vs H Q=>∃ x T t b,vs = [x,.ty T] /\ TyOf K H x t /\ PySem.W.kitOne K t (.type T) = some b /\ Q (.bl b) H
theorem oqP : CallR X (.builtin "isinstance") (rIsi X.K) := by
 intro pins s σ H xs us Q I r h
 obtain ⟨x,T,t,b,rfl,ty,e,q⟩ := h
 obtain ⟨u,v,rfl,ru,rv⟩ := vals2 r
 cases (show v = Value.type T from rv)
 exact nqE I ru ty e fun tk=>⟨.bl b,H,I.tok tk,rfl,q⟩
def rCatD : R2 := fun x y H Q=>∃ a b xs ys,x = .ref a /\ y = .ref b /\ H a = some (.tup xs) /\ H b = some (.tup ys) /\ xs.length + ys.length <= sizeLine /\ ∀ p H',Same H H' -> H' p = some (.tup (xs ++ ys)) -> Q (.ref p) H'
theorem rqi : OpR X (binaryOp .Add) rCatD := by
 intro pins s σ H x y v u Q I rx ry h
 obtain ⟨a,b,xs,ys,rfl,rfl,ha,hb,hz,q⟩ := h
 by_cases hx : xs = []
 ·subst hx
  cases rx
  cases ry
  obtain ⟨its,r1,p1,_⟩ := I.tuple (SqT.of ha)
  obtain ⟨its2,r2,p2,_⟩ := I.tuple (SqT.of hb)
  cases r1
  obtain ⟨⟨cls,dd,data,sl⟩,ho,hc,n,hd⟩ := id p1
  obtain ⟨⟨cls2,dd2,data2,sl2⟩,ho2,hc2,n2,hd2⟩ := id p2
  simp only at hc hd hc2 hd2
  subst hc hd hc2 hd2
  exact concat_meets ⟨_,ho,rfl⟩ ⟨_,ho2,rfl⟩ noFill_tuple_add seq_tuple_add PySem.F.slot_tuple_add PySem.F.entry_tuple_add (PySem.F.args_tuple_add_2 _ _)
   (tuple_addW0 a b ([] : List Value).toArray its2.toArray n n2 dd dd2 sl sl2 rfl) ⟨ho,ho2,⟨.ref b,H,I,rfl,q b H (Same.refl _) hb⟩⟩
 ·refine qqy pins s σ H _ _ v u Q I rx ry ⟨a,b,xs,ys,rfl,rfl,SqT.of ha,SqT.of hb,hx,hz,fun e=>q a H (Same.refl _) (by rw [e,List.append_nil]; exact ha),fun _ p hp=>q p _ (fun b o e=>by rw [aqo (aqm e hp)]; exact e) aqj⟩
def rAddU (K : PySem.W.Frag) : R2 := fun x y H Q=>match x,y with
 | .int i,.int j=>Q (.int (i + j)) H
 | .str i,.str j=>i.length + j.length <= sizeLine /\ Q (.str (i ++ j)) H
 | .ref a,.ref b=>(∃ xs zs,H a = some (.lst xs) /\ H b = some (.lst zs) /\ xs.length + zs.length <= sizeLine /\ ∀ p,H p = none -> Q (.ref p) (upd H p (.lst (xs ++ zs)))) \/
   (∃ xs ys,H a = some (.tup xs) /\ H b = some (.tup ys) /\ xs.length + ys.length <= sizeLine /\ ∀ p H',Same H H' -> H' p = some (.tup (xs ++ ys)) -> Q (.ref p) H')
 | _,_=>False
theorem nqo : OpR X (binaryOp .Add) (rAddU X.K) := by
 intro pins s σ H x y v u Q I rx ry h
 cases x with
 | int i =>
  cases y with
  | int j=>exact sqo pins s σ H _ _ v u Q I rx ry ⟨i,j,rfl,rfl,h⟩
  | _=>exact h.elim
 | str i =>
  cases y with
  | str j=>exact mqX pins s σ H _ _ v u Q I rx ry ⟨i,j,rfl,rfl,h.1,h.2⟩
  | _=>exact h.elim
 | ref a =>
  cases y with
  | ref b =>
   rcases h with ⟨xs,zs,h1,h2,h3,h4⟩ | ⟨xs,ys,h1,h2,h3,h4⟩
   ·exact tqf pins s σ H _ _ v u Q I rx ry ⟨a,b,xs,zs,rfl,rfl,h1,h2,h3,h4⟩
   ·exact rqi pins s σ H _ _ v u Q I rx ry ⟨a,b,xs,ys,rfl,rfl,h1,h2,h3,h4⟩
  | _=>exact h.elim
 | _=>exact h.elim
theorem rq1 {K : PySem.W.Frag} {i j : Int} {H : Hp} {Q : VK} : (rAddU K (.int i) (.int j) H Q) = (Q (.int (i + j)) H) := rfl
theorem oqp {K : PySem.W.Frag} {i j : Str} {H : Hp} {Q : VK} : (rAddU K (.str i) (.str j) H Q) = (i.length + j.length <= sizeLine /\ Q (.str (i ++ j)) H) := rfl
end
section
variable {X : Cx}
def rMulU : R2 := fun x y H Q=>match x,y with
 | .int i,.int j=>CMul i j /\ Q (.int (i * j)) H
 | .str z,.int k=>MulOk z k /\ Q (.str (Txt.mul z k)) H
 | _,_=>False
theorem cqe : OpR X (binaryOp .Mult) rMulU := by
 intro pins s σ H x y v u Q I rx ry h
 cases x with
 | int i =>
  cases y with
  | int j=>exact sqw pins s σ H _ _ v u Q I rx ry ⟨i,j,rfl,rfl,h.1,h.2⟩
  | _=>exact h.elim
 | str z =>
  cases y with
  | int k =>
   obtain ⟨t,rfl⟩ := rx
   obtain ⟨t',rfl⟩ := ry
   exact SB.mul h.1 fun t' k' => ⟨.str (Txt.mul z k),H,I.tok k',⟨t',rfl⟩,h.2⟩
  | _=>exact h.elim
 | _=>exact h.elim
theorem rqW {i j : Int} {H : Hp} {Q : VK} : (rMulU (.int i) (.int j) H Q) = (CMul i j /\ Q (.int (i * j)) H) := rfl
theorem rqX {z : Str} {k : Int} {H : Hp} {Q : VK} : (rMulU (.str z) (.int k) H Q) = (MulOk z k /\ Q (.str (Txt.mul z k)) H) := rfl
def rLenU (K : PySem.W.Frag) : List V -> Hp -> VK -> Prop := fun xs H Q=>match xs with
 | [.str z] => z.length <= sizeLine /\ Q (.int z.length) H
 | [.ref p] => ∃ ys,(SqL K H p ys \/ SqT K H p ys) /\ Q (.int ys.length) H
 | _=>False
theorem nqK : CallR X (.builtin "len") (rLenU X.K) := by
 intro pins s σ H xs us Q I r h
 unfold rLenU at h
 split at h
 ·exact kqQ pins s σ H _ us Q I r ⟨_,rfl,h.1,h.2⟩
 ·obtain ⟨ys,h1,h2⟩ := h
  exact kqu pins s σ H _ us Q I r ⟨_,ys,rfl,h1,h2⟩
 ·exact h.elim
theorem sqZ {K : PySem.W.Frag} {z : Str} {H : Hp} {Q : VK} : (rLenU K [.str z] H Q) = (z.length <= sizeLine /\ Q (.int z.length) H) := rfl
theorem oqE {K : PySem.W.Frag} {p : Addr} {H : Hp} {Q : VK} : (rLenU K [.ref p] H Q) = (∃ ys,(SqL K H p ys \/ SqT K H p ys) /\ Q (.int ys.length) H) := rfl
def rOrdU : List V -> Hp -> VK -> Prop := fun xs H Q=>match xs with
 | [.str z] => z.length = 1 /\ Q (.int (z.cps.getD 0 0 : Nat)) H
 | _=>False
theorem sqI {c : Nat} {H : Hp} {Q : VK} : rOrdU [.str ⟨#[c]⟩] H Q ↔ Q (.int (c : Nat)) H := ⟨fun h=>h.2,fun h=>⟨rfl,h⟩⟩
theorem kqX : bootBuiltins "int" = some (.type "int") := by decide +kernel
theorem kqT : bootBuiltins "str" = some (.type "str") := by decide +kernel
theorem lqQ : bootBuiltins "bool" = some (.type "bool") := by decide +kernel
theorem dq0 : bootBuiltins "tuple" = some (.type "tuple") := by decide +kernel
theorem fqA : bootBuiltins "list" = some (.type "list") := by decide +kernel
theorem aqA : bootBuiltins "isinstance" = some (.builtin "isinstance") := by decide +kernel
def rIntU : List V -> Hp -> VK -> Prop := fun xs H Q=>match xs with
 | [.int i] => Q (.int i) H
 | [.bl k] => Q (.int (if k then 1 else 0)) H
 | _=>False
theorem iqz : CallR X (.type "int") rIntU := by
 intro pins s σ H xs us Q I r h
 unfold rIntU at h
 split at h
 ·exact kqq pins s σ H _ us Q I r (.inl ⟨_,rfl,h⟩)
 ·exact kqq pins s σ H _ us Q I r (.inr ⟨_,rfl,h⟩)
 ·exact h.elim
theorem sqa {k : Bool} {H : Hp} {Q : VK} : (rIntU [.bl k] H Q) = (Q (.int (if k then 1 else 0)) H) := rfl
def rInU : R2 := fun x y H Q=>match x,y with
 | .str i,.str j=>Q (.bl (!(Builtin.Str.occurrences j i 0 j.length 1).isEmpty)) H
 | _,_=>False
theorem rq4 : OpR X (compareOp .In) rInU := by
 intro pins s σ H x y v u Q I rx ry h
 cases x with
 | str i =>
  cases y with
  | str j=>exact oqJ pins s σ H _ _ v u Q I rx ry ⟨i,j,rfl,rfl,h⟩
  | _=>exact h.elim
 | _=>exact h.elim
def rNotInU : R2 := fun x y H Q=>match x,y with
 | .str i,.str j=>Q (.bl (!(!(Builtin.Str.occurrences j i 0 j.length 1).isEmpty))) H
 | _,_=>False
theorem kq0 : OpR X (compareOp .NotIn) rNotInU := by
 intro pins s σ H x y v u Q I rx ry h
 cases x with
 | str i =>
  cases y with
  | str j=>exact kqg pins s σ H _ _ v u Q I rx ry ⟨i,j,rfl,rfl,h⟩
  | _=>exact h.elim
 | _=>exact h.elim
theorem sq5 {c : Nat} {j : Str} {H : Hp} {Q : VK} : rInU (.str ⟨#[c]⟩) (.str j) H Q ↔ Q (.bl (decide (c ∈ j.cps.toList))) H := by
 show Q (.bl (!(Builtin.Str.occurrences j ⟨#[c]⟩ 0 j.length 1).isEmpty)) H ↔ _
 rw [StrLaws.found_one]
theorem oqs {c : Nat} {j : Str} {H : Hp} {Q : VK} : rNotInU (.str ⟨#[c]⟩) (.str j) H Q ↔ Q (.bl (!decide (c ∈ j.cps.toList))) H := by
 show Q (.bl (!(!(Builtin.Str.occurrences j ⟨#[c]⟩ 0 j.length 1).isEmpty))) H ↔ _
 rw [StrLaws.found_one]
def rIsN (neg : Bool) : R2 := fun x y H Q=>y = .non /\ Q (.bl (if neg then !decide (x = .non) else decide (x = .non))) H
theorem jqR : OpR X (compareOp .Is) (rIsN false) := fun pins s σ H x y v u Q I rx ry h=>sqC pins s σ H x y v u Q I rx ry h
theorem hqh : OpR X (compareOp .IsNot) (rIsN true) := fun pins s σ H x y v u Q I rx ry h=>qqo pins s σ H x y v u Q I rx ry h
theorem tqs {x : V} {H : Hp} {Q : VK} : rIsN false x .non H Q ↔ Q (.bl (decide (x = .non))) H := ⟨fun h=>h.2,fun h=>⟨rfl,h⟩⟩
theorem tqt {x : V} {H : Hp} {Q : VK} : rIsN true x .non H Q ↔ Q (.bl (!decide (x = .non))) H := ⟨fun h=>h.2,fun h=>⟨rfl,h⟩⟩
def kindV (x : V) (H : Hp) : Option String := match x with
 | .non=>some "NoneType"
 | .bl _=>some "bool"
 | .int _=>some "int"
 | .str _=>some "str"
 | .ref a=>match H a with
  | some (.lst _)=>some "list"
  | some (.tup _)=>some "tuple"
  | _=>none
 | _=>none
def subT (a b : String) : Bool := a == b || (a == "bool" && b == "int")
theorem rqB (K : PySem.W.Frag) : ∀ a ∈ ["NoneType", "bool", "int", "str", "list", "tuple"],∀ b ∈ ["bool", "int", "str", "list", "tuple"],PySem.W.kitOne K (.type a) (.type b) = some (subT a b) := by
 intro a ha b hb
 simp only [List.mem_cons,List.not_mem_nil,or_false] at ha hb
 rcases ha with rfl | rfl | rfl | rfl | rfl | rfl <;> rcases hb with rfl | rfl | rfl | rfl | rfl <;> with_unfolding_all kernel_rfl
def rIsiU : List V -> Hp -> VK -> Prop := fun vs H Q=>match vs with
 | [x,.ty T] => ∃ k,kindV x H = some k /\ T ∈ ["bool", "int", "str", "list", "tuple"] /\ Q (.bl (subT k T)) H
 | _=>False
theorem bqw : CallR X (.builtin "isinstance") rIsiU := by
 intro pins s σ H xs us Q I r h
 unfold rIsiU at h
 split at h
 ·rename_i x T
  obtain ⟨k,hk,hT,q⟩ := h
  have key : TyOf X.K H x (.type k) /\ k ∈ ["NoneType", "bool", "int", "str", "list", "tuple"] := by
   unfold kindV at hk
   split at hk
   ·cases hk; exact ⟨.non,by decide⟩
   ·cases hk; exact ⟨.bl _,by decide⟩
   ·cases hk; exact ⟨.int _,by decide⟩
   ·cases hk; exact ⟨.str _,by decide⟩
   ·split at hk
    ·rename_i e; cases hk; exact ⟨.lst e,by decide⟩
    ·rename_i e; cases hk; exact ⟨.tup e,by decide⟩
    ·cases hk
   ·cases hk
  exact oqP pins s σ H _ us Q I r ⟨x,T,.type k,subT k T,rfl,key.1,rqB X.K k key.2 T hT,q⟩
 ·exact h.elim
end
section
variable {σ : St} {H : Hp} {Q : VK} {D : Ends} {K : PySem.W.Frag} {ta tb te : TE} {tt tu : TT} {t u : TS} {aa ab : TA} {v x y : V} {r r' : R2}
theorem sqO {i : Nat} : (tVar i σ H Q) = (∃ v,σ[i]? = some (some v) /\ Q v H) := rfl
theorem rd_C : (tC v σ H Q) = (Q v H) := rfl
theorem sqU : (tSeq t u D σ H) = (t { D with nx := u D } σ H) := rfl
theorem sqD {g : TG} : (tAsg te g D σ H) = (te σ H fun x H1=>g x σ H1 D.nx) := rfl
theorem qqu {i : Nat} {R : St -> Hp -> Prop} : (gName i v σ H R) = (R (σ.set i (some v)) H) := rfl
theorem tqb : (tIfS tt t u D σ H) = (tt σ H fun b H1=>if b = true then t D σ H1 else u D σ H1) := rfl
theorem rqb : (tNext D σ H) = (D.nx σ H) := rfl
theorem sqe : (tBreak D σ H) = (D.bk σ H) := rfl
theorem sq0 : (tRet te D σ H) = (te σ H D.rt) := rfl
theorem rqz : (tDrop te D σ H) = (te σ H fun _ H1=>D.nx σ H1) := rfl
theorem tqF : (tOp r ta tb σ H Q) = (ta σ H fun x H1=>tb σ H1 fun y H2=>r x y H2 Q) := rfl
theorem qqr {R : Bool -> Hp -> Prop} : (tTest te σ H R) = (te σ H fun x H' => ∃ k,x = .bl k /\ R k H') := rfl
theorem rd_B {R : Bool -> Hp -> Prop} : (tB te σ H R) = (te σ H fun x H' => ∃ k,x = .bl k /\ R k H') := rfl
theorem sq2 {R : Bool -> Hp -> Prop} : (tAnd tt tu σ H R) = (tt σ H fun c H1=>if c = true then tu σ H1 R else R false H1) := rfl
theorem tqo {R : Bool -> Hp -> Prop} : (tOr tt tu σ H R) = (tt σ H fun c H1=>if c = true then R true H1 else tu σ H1 R) := rfl
theorem sqy {R : Bool -> Hp -> Prop} : (tNot tt σ H R) = (tt σ H fun c H1=>R (!c) H1) := rfl
theorem qq2 : (tAndV ta tb σ H Q) = (ta σ H fun x H1=>∃ c,x = .bl c /\ if c = true then tb σ H1 Q else Q (.bl false) H1) := rfl
theorem sq3 : (tOrV ta tb σ H Q) = (ta σ H fun x H1=>∃ c,x = .bl c /\ if c = true then Q (.bl true) H1 else tb σ H1 Q) := rfl
theorem rqt : (tNotV ta σ H Q) = (ta σ H fun x H1=>∃ c,x = .bl c /\ Q (.bl (!c)) H1) := rfl
theorem tqC : (tIf tt ta tb σ H Q) = (tt σ H fun c H1=>if c = true then ta σ H1 Q else tb σ H1 Q) := rfl
theorem pqa {tc : TE} : (tChain r r' ta tb tc σ H Q) = (ta σ H fun x H1=>tb σ H1 fun y H2=>r x y H2 fun z H3=>∃ k,z = .bl k /\ (if k = true then tc σ H3 fun w' H4=>r' y w' H4 Q else Q (.bl false) H3)) := rfl
theorem tqj {R : List V -> Hp -> Prop} : (tNil σ H R) = (R [] H) := rfl
theorem qql {R : List V -> Hp -> Prop} : (tCons te aa σ H R) = (te σ H fun x H1=>aa σ H1 fun xs H2=>R (x :: xs) H2) := rfl
theorem sqG : (tLst aa σ H Q) = (aa σ H fun xs H1=>xs.length <= sizeLine /\ ∀ p,H1 p = none -> Q (.ref p) (upd H1 p (.lst xs))) := rfl
theorem sqH : (tTup aa σ H Q) = (aa σ H fun xs H1=>xs.length <= sizeLine /\ ∀ p,H1 p = none -> Q (.ref p) (upd H1 p (.tup xs))) := rfl
theorem rqC {sp : Sp} {dvs : List V} {E : XK} : (tCall sp dvs E aa σ H Q) = (aa σ H fun vs H1=>sp (vs ++ dvs) H1 Q E) := rfl
theorem tqv {c : List V -> Hp -> VK -> Prop} : (tCB c aa σ H Q) = (aa σ H fun vs H1=>c vs H1 Q) := rfl
theorem tqr {T : String} {m : V -> List V -> Hp -> VK -> Prop} : (tBM K T m te aa σ H Q) = (te σ H fun x H1=>tyV K T x H1 /\ aa σ H1 fun xs H2=>m x xs H2 Q) := rfl
theorem sqS {T : String} {m : V -> List V -> Hp -> VK -> Prop} : (tBM0 K T m te σ H Q) = (te σ H fun x H1=>tyV K T x H1 /\ m x [] H1 Q) := rfl
theorem tqu {m : V -> Option Int -> Option Int -> Hp -> VK -> Prop} {tl th : TO} : (tSl m te tl th σ H Q) = (te σ H fun x H1=>tl σ H1 fun l H2=>th σ H2 fun u H3=>m x l u H3 Q) := rfl
theorem nqD {R : Option Int -> Hp -> Prop} : (tNoPart σ H R) = (R none H) := rfl
theorem rqk {R : Option Int -> Hp -> Prop} : (tPart te σ H R) = (te σ H fun x H1=>∃ i,x = .int i /\ R (some i) H1) := rfl
theorem oqX {z : Str} : tyV K "str" (.str z) H ↔ True := ⟨fun _=>trivial,fun _=>rfl⟩
theorem rd_I {C : Int -> Int -> Prop} {g : Int -> Int -> V} {i j : Int} : rI C g (.int i) (.int j) H Q ↔ C i j /\ Q (g i j) H :=
 ⟨fun ⟨_,_,h1,h2,h3⟩=>by cases h1; cases h2; exact h3,fun h=>⟨i,j,rfl,rfl,h⟩⟩
theorem pqQ {g : Int -> Int -> V} {i j : Int} : rI0 g (.int i) (.int j) H Q ↔ Q (g i j) H :=
 ⟨fun ⟨_,_,h1,h2,h3⟩=>by cases h1; cases h2; exact h3,fun h=>⟨i,j,rfl,rfl,h⟩⟩
theorem oqK {i j : Int} : rEq (.int i) (.int j) H Q ↔ Q (.bl (decide (i = j))) H := by
 unfold rEq scal; simp only [true_and,V.int.injEq]
theorem aqt {i j : Str} : rEq (.str i) (.str j) H Q ↔ Q (.bl (decide (i = j))) H := by
 unfold rEq scal; simp only [true_and,V.str.injEq]
theorem qqM {i j : Bool} : rEq (.bl i) (.bl j) H Q ↔ Q (.bl (decide (i = j))) H := by
 unfold rEq scal; simp only [true_and,V.bl.injEq]
theorem nqz {i j : Int} : rNe (.int i) (.int j) H Q ↔ Q (.bl (!decide (i = j))) H := by
 unfold rNe scal; simp only [true_and,V.int.injEq]
theorem jqG {i j : Str} : rNe (.str i) (.str j) H Q ↔ Q (.bl (!decide (i = j))) H := by
 unfold rNe scal; simp only [true_and,V.str.injEq]
theorem lqN {i j : Bool} : rNe (.bl i) (.bl j) H Q ↔ Q (.bl (!decide (i = j))) H := by
 unfold rNe scal; simp only [true_and,V.bl.injEq]
theorem rqT : rNe .non .non H Q ↔ Q (.bl false) H := ⟨fun h=>h.2,fun h=>⟨rfl,h⟩⟩
theorem qq6 {i : Str} : rNe (.str i) .non H Q ↔ Q (.bl true) H := ⟨fun h=>h.2,fun h=>⟨rfl,h⟩⟩
theorem oq5 {i : Str} : rNe .non (.str i) H Q ↔ Q (.bl true) H := ⟨fun h=>h.2,fun h=>⟨rfl,h⟩⟩
theorem qq7 : rEq .non .non H Q ↔ Q (.bl true) H := ⟨fun h=>h.2,fun h=>⟨rfl,h⟩⟩
theorem rqx {i : Str} : rEq (.str i) .non H Q ↔ Q (.bl false) H := ⟨fun h=>h.2,fun h=>⟨rfl,h⟩⟩
theorem oq0 {i : Str} : rEq .non (.str i) H Q ↔ Q (.bl false) H := ⟨fun h=>h.2,fun h=>⟨rfl,h⟩⟩
theorem sqx {z : Str} {i : Int} : rIx K (.str z) (.int i) H Q ↔ ∃ c,z.length <= sizeLine /\ atI z.cps.toList i = some c /\ Q (.str ⟨#[c]⟩) H := by
 constructor
 ·rintro (⟨p,xs,j,v,h,_⟩ | ⟨p,xs,j,v,h,_⟩ | ⟨z',j,c,h1,h2,h3,h4,h5⟩)
  ·cases h
  ·cases h
  ·cases h1; cases h2; exact ⟨c,h3,h4,h5⟩
 ·rintro ⟨c,h3,h4,h5⟩
  exact .inr (.inr ⟨z,i,c,rfl,rfl,h3,h4,h5⟩)
theorem qqj {z : Str} {lo hi : Option Int} : rSl K (.str z) lo hi H Q ↔ z.length <= sizeLine /\ Q (.str (Txt.slice z lo hi)) H := by
 constructor
 ·rintro (⟨a,xs,h,_⟩ | ⟨z',h1,h2,h3⟩)
  ·cases h
  ·cases h1; exact ⟨h2,h3⟩
 ·rintro ⟨h2,h3⟩
  exact .inr ⟨z,rfl,h2,h3⟩
end
section
variable {σ : St} {H : Hp} {Q : VK} {K : PySem.W.Frag}
theorem rq2 {a : Addr} {lo hi : Option Int} : rSl K (.ref a) lo hi H Q ↔ ∃ xs,SqL K H a xs /\ ∀ p,H p = none -> Q (.ref p) (upd H p (.lst (cutV xs lo hi))) := by
 constructor
 ·rintro (⟨a',xs,h,h2⟩ | ⟨z',h1,_⟩)
  ·cases h; exact ⟨xs,h2⟩
  ·cases h1
 ·rintro ⟨xs,h2⟩
  exact .inl ⟨a,xs,rfl,h2⟩
theorem eqN {p : Addr} {i : Int} : rIx K (.ref p) (.int i) H Q ↔ ∃ xs v,(SqL K H p xs \/ SqT K H p xs) /\ atI xs i = some v /\ Q v H := by
 constructor
 ·rintro (⟨p',xs,j,v,h,h2,h3,h4⟩ | ⟨p',xs,j,v,h,h2,h3,h4⟩ | ⟨z',j,c,h1,_⟩)
  ·cases h; cases h2; exact ⟨xs,v,.inl h3,h4⟩
  ·cases h; cases h2; exact ⟨xs,v,.inr h3,h4⟩
  ·cases h1
 ·rintro ⟨xs,v,h | h,h2⟩
  ·exact .inl ⟨p,xs,i,v,rfl,rfl,h,h2⟩
  ·exact .inr (.inl ⟨p,xs,i,v,rfl,rfl,h,h2⟩)
theorem sq9 {a b : Addr} : rAddU K (.ref a) (.ref b) H Q ↔ (∃ xs zs,H a = some (.lst xs) /\ H b = some (.lst zs) /\ xs.length + zs.length <= sizeLine /\ ∀ p,H p = none -> Q (.ref p) (upd H p (.lst (xs ++ zs)))) \/
   (∃ xs ys,H a = some (.tup xs) /\ H b = some (.tup ys) /\ xs.length + ys.length <= sizeLine /\ ∀ p H',Same H H' -> H' p = some (.tup (xs ++ ys)) -> Q (.ref p) H') := Iff.rfl
theorem cx_K {CX : CXT} {P : Program} {w : World} {mg : Str -> Option Value} {base : Heap} {N : List Str} {qual : Str} {scope : Scope} {f : Addr} {cd : Value} {A : Around} {outer : List Env} {s : Shared} {E : XK} :
  (cxOf CX P w K mg base N qual scope f cd A outer s H E).K = K := rfl
end
def LoopI (J : It) (g : TG) (tb : TS) (D : Ends) (σ : St) (H : Hp) : Prop := ∃ W : Nat -> Nat -> St -> Hp -> Prop,(∃ m,W 0 m σ H) /\ ∀ i m σ H,W i m σ H ->
 (J.stop i H /\ D.nx σ H) \/ (J.go i H /\ ∃ N : St -> Hp -> Prop,(∀ σ' H',N σ' H' -> ∃ m',m' < m /\ W (i + 1) m' σ' H') /\ ∀ x H',J.yld i H x H' -> g x σ H' fun σ2 H2=>tb { D with nx := N,ct := N,bk := D.nx } σ2 H2)
section
variable {σ : St} {H : Hp} {D : Ends} {K : PySem.W.Frag} {te : TE} {g : TG} {tb : TS} {aa : TA}
theorem qqK : (tFor (iStr te) g tb D σ H) = (te σ H fun x H1=>∃ z,x = .str z /\ LoopI (Its z) g tb D σ H1) := rfl
theorem qqY : (tFor (iList K te) g tb D σ H) = (te σ H fun x H1=>∃ a,x = .ref a /\ (∃ xs,SqL K H1 a xs) /\ LoopI (Itl K a) g tb D σ H1) := rfl
theorem qqX : (tFor (iRng1 aa) g tb D σ H) = (aa σ H fun vs H1=>∃ j : Int,vs = [.int j] /\ -(2 ^ 62) <= j /\ j < 2 ^ 62 /\ LoopI (Itr 0 j.toNat) g tb D σ H1) := rfl
theorem hqS {a : Addr} {xs : List V} (Pv : Nat -> St -> Hp -> Prop) (h0 : Pv 0 σ H) (hl : ∀ i σ H,i <= xs.length -> Pv i σ H -> SqL K H a xs)
  (hs : ∀ i x σ H,xs[i]? = some x -> Pv i σ H -> g x σ H fun σ2 H2=>tb { D with nx := Pv (i + 1),ct := Pv (i + 1),bk := D.nx } σ2 H2) (hd : ∀ σ H,Pv xs.length σ H -> D.nx σ H) : LoopI (Itl K a) g tb D σ H := pqP Pv h0 hl hs hd
theorem cqf {lo : Int} {n : Nat} (Pv : Nat -> St -> Hp -> Prop) (h0 : Pv 0 σ H)
  (hs : ∀ i σ H,i < n -> Pv i σ H -> g (.int (lo + i)) σ H fun σ2 H2=>tb { D with nx := Pv (i + 1),ct := Pv (i + 1),bk := D.nx } σ2 H2) (hd : ∀ σ H,Pv n σ H -> D.nx σ H) : LoopI (Itr lo n) g tb D σ H := oqo Pv h0 hs hd
end
section
variable {prog : Program} {w : World} {A : Around} {R : Result -> Shared -> Prop} {s : Shared}
theorem gq4 {elt target iter : Expr} {ifs : List Expr} {scope : Scope} {pos : Pos} {it acc : Value} {env : Env} (I : Nat -> Shared -> Prop)
  (turn : ∀ n s,I n s -> wpAny (model prog w) A (pyNext it) (fun r s₁=>match r with
   | none=>R (.ok .next) s₁
   | some v=>wpAny (model prog w) A (letOwnedTupleGo target it v) (fun _ s₁' => wpAny (model prog w) A (assign target env v) (fun _ s₂ =>
     wpAny (model prog w) A (forIn ifs true fun c r=>if r = true then do let ok <- isTrue c env (eval c env); pure (ForInStep.yield ok) else pure (ForInStep.yield r)) (fun ok s₃ =>
      if ok = true then wpAny (model prog w) A (eval elt env) (fun x s₄ =>
       wpAny (model prog w) A (call (.builtin "list.append") [acc,x]) (fun _ s₅=>∃ m,m < n /\ I m s₅) (fun _ _=>False) s₄) (fun _ _=>False) s₃
      else ∃ m,m < n /\ I m s₃) (fun _ _=>False) s₂) (fun _ _=>False) s₁') (fun _ _=>False) s₁) (fun _ _=>False) s)
  (n : Nat) (h : I n s) : codeAny (model prog w) A (.compLoop (.ListComp elt [⟨target,iter,ifs,0⟩] scope pos) 0 it acc env) R s := by
 refine codeAny_loop rfl I (fun n s hI=>?_) n h
 show wpAny _ A ((compTurn (.ListComp elt [⟨target,iter,ifs,0⟩] scope pos) 0 it acc env).onRaise (fun x=>do noteFrame x env; theTreesLotGoes x)) _ _ s
 refine wpAny_noted ?_
 rw [compTurn_list]
 refine wpAny_bind (wpAny_standAt (wpAny_bind (wpAny_mono (turn n s hI) (fun r s₁ h₁=>?_) fun _ _ h' => h'.elim)))
 cases r with
 | none=>exact wpAny_pure h₁
 | some v =>
  refine wpAny_bind (wpAny_mono h₁ (fun _ s₁' h₁' => wpAny_bind (wpAny_mono h₁' (fun _ s₂ h₂=>wpAny_bind (wpAny_mono h₂ (fun ok s₃ h₃=>?_) fun _ _ h' => h'.elim)) fun _ _ h' => h'.elim)) fun _ _ h' => h'.elim)
  cases ok with
  | false=>exact wpAny_pure ⟨rfl,h₃⟩
  | true =>
   exact wpAny_bind (wpAny_bind (wpAny_mono h₃ (fun x s₄ h₄=>wpAny_bind (wpAny_mono h₄ (fun _ s₅ h₅=>wpAny_pure (wpAny_pure ⟨rfl,h₅⟩)) fun _ _ h' => h'.elim)) fun _ _ h' => h'.elim))
end
def compCx (X : Cx) (N' : List Str) (scope : Scope) (cl : List (Str × Addr)) (s : Shared) (H : Hp) (fp : List Addr) : Cx :=
 { X with N := N',s₀ := s,H₀ := H,env := compEnvC scope cl s.heap.objs.size X.env,outer := X.stack,stack := X.stack,ex := fp,fn := fun _=>false,pn := [],xe := fun _ _=>False }
inductive Frees (X : Cx) (rs : Scope) (cl : List (Str × Addr)) : List Str -> List Nat -> Prop where
 | nil : Frees X rs cl [] []
 | cons {y : Str} {i : Nat} {fx : List Str} {fr : List Nat} (h1 : X.N[i]? = some y) (h2 : X.env.kindOf y = some .cell) (h3 : rs.names.lookup y = some .cell) (h4 : cl.lookup y = X.env.cells.lookup y) (r : Frees X rs cl fx fr) : Frees X rs cl (y :: fx) (i :: fr)
def frV (σ : St) (fr : List Nat) : St := fr.map fun i=>(σ[i]?).getD none
theorem Frees.len {X : Cx} {rs : Scope} {cl : List (Str × Addr)} {fx : List Str} {fr : List Nat} (F : Frees X rs cl fx fr) : fr.length = fx.length := by
 induction F with
 | nil=>rfl
 | cons _ _ _ _ _ ih=>simp [ih]
theorem Frees.at {X : Cx} {rs : Scope} {cl : List (Str × Addr)} {σ : St} : ∀ {fx : List Str} {fr : List Nat},Frees X rs cl fx fr -> ∀ (j : Nat) (y : Str) (v : V),fx[j]? = some y -> (frV σ fr)[j]? = some (some v) ->
  ∃ i : Nat,X.N[i]? = some y /\ σ[i]? = some (some v) /\ X.env.kindOf y = some .cell /\ rs.names.lookup y = some .cell /\ cl.lookup y = X.env.cells.lookup y
 | _,_,.nil,j,y,v,h,_=>by simp at h
 | _,_,.cons (y := z) (i := i) h1 h2 h3 h4 r,0,y,v,h,hv=>by
  simp only [List.getElem?_cons_zero,Option.some.injEq] at h
  subst h
  simp only [frV,List.map_cons,List.getElem?_cons_zero,Option.some.injEq] at hv
  refine ⟨i,h1,?_,h2,h3,h4⟩
  cases e : σ[i]? with
  | none=>rw [e] at hv; cases hv
  | some o=>rw [e] at hv; exact congrArg some hv
 | _,_,.cons h1 h2 h3 h4 r,j + 1,y,v,h,hv=>by
  simp only [List.getElem?_cons_succ] at h
  simp only [frV,List.map_cons,List.getElem?_cons_succ] at hv
  exact r.at j y v h hv
theorem Frees.mem {X : Cx} {rs : Scope} {cl : List (Str × Addr)} : ∀ {fx : List Str} {fr : List Nat},Frees X rs cl fx fr -> ∀ y ∈ fx,X.env.kindOf y = some .cell /\ cl.lookup y = X.env.cells.lookup y
 | _,_,.nil,y,h=>by simp at h
 | _,_,.cons h1 h2 h3 h4 r,y,h=>by
  rcases List.mem_cons.mp h with rfl | h
  ·exact ⟨h2,h4⟩
  ·exact r.mem y h
section
variable {X : Cx} {pins : List (Addr × Obj)} {σ : St} {H1 : Hp} {s3 : Shared} {x : Str} {fx : List Str} {fr : List Nat} {scope : Scope} {cl : List (Str × Addr)} {fp : List Addr}
theorem qq9 (I : Inv X pins σ H1 s3) (hkind : scope.kind = .function) (hcl : ∀ y c,cl.lookup y = some c -> X.env.cells.lookup y = some c)
  (F : Frees X (relabel scope X.env) cl fx fr) (hfx : ((relabel scope X.env).names.all fun p=>if (p.2 == .cell || p.2 == .free) then fx.contains p.1 else true) = true)
  (ffp : ∀ b ∈ fp,FpOk X pins H1 b) (flt : ∀ b ∈ fp,b < s3.heap.objs.size) : (compCx X (x :: fx) scope cl s3 H1 fp).Ok where
 mod := I.ok.mod
 kind := hkind
 glob := I.ok.glob
 blt := I.ok.blt
 above := Nat.le_refl _
 inj := fun y z c h1 h2=>I.ok.inj y z c (hcl y c h1) (hcl z c h2)
 has := fun y h=>by
  have h : (relabel scope X.env).names.lookup y = some .cell \/ (relabel scope X.env).names.lookup y = some .free := h
  have key : y ∈ fx := by
   rcases h with h | h
   ·have q := List.all_eq_true.mp hfx _ (PySem.mem_of_lookup h)
    simpa using q
   ·have q := List.all_eq_true.mp hfx _ (PySem.mem_of_lookup h)
    simpa using q
  obtain ⟨k1,k2⟩ := F.mem y key
  obtain ⟨c,e⟩ := I.ok.has y (.inl k1)
  exact ⟨c,k2.trans e⟩
 cab := fun y c h=>by cases (show false = true from h)
 hd := I.ok.hd
 frames := I.ok.frames
 stk := .inl rfl
 exf := fun b hb=>⟨Nat.ne_of_lt (flt b hb),fun y c e=>(ffp b hb).2.2.2.2.1 y c (hcl y c e)⟩
 bs := I.bs
 bsz := Nat.le_trans I.ok.bsz I.sz
 noex := fun b o e hb=>by
  rcases (ffp b hb).2.2.2.1 with z | z
  ·exact I.ok.noex b o e z
  ·exact absurd (Nat.lt_of_lt_of_le (Heap.lt_size (I.ok.bs b o e).1) z) (Nat.lt_irrefl _)
 exfs := fun b hb z=>by
  rcases List.mem_cons.mp (I.stkSub b z) with q | q
  ·exact (ffp b hb).2.1 q
  ·exact (ffp b hb).2.2.1 q
 funs := I.stack
 frf := I.stkFree
theorem mqL (I : Inv X pins σ H1 s3) (hkind : scope.kind = .function) (hcl : ∀ y c,cl.lookup y = some c -> X.env.cells.lookup y = some c)
  (F : Frees X (relabel scope X.env) cl fx fr) (hfx : ((relabel scope X.env).names.all fun p=>if (p.2 == .cell || p.2 == .free) then fx.contains p.1 else true) = true)
  (ffp : ∀ b ∈ fp,FpOk X pins H1 b) (flt : ∀ b ∈ fp,b < s3.heap.objs.size) {h1 : Heap} {t : Nat} {m : Str -> Option Value} (hn : h1.Ns s3.heap.objs.size m)
  (keep : ∀ b u,s3.heap.get? b = some u -> h1.get? b = some u) : Inv (compCx X (x :: fx) scope cl s3 H1 fp) [] (none :: frV σ fr) H1 { s3 with heap := h1,toks := t } := by
 refine ⟨qq9 I hkind hcl F hfx ffp flt,rfl,I.bare,Un.kept keep,⟨m,hn,fun i y v e1 e2 e3=>?_⟩,fun y c e=>?_,I.hok.fresh (Nat.le_refl _),fun y c e=>I.freeC y c (hcl y c e),fun p hp=>absurd (show p ∈ ([] : List (Addr × Obj)) from hp) (by simp),I.hok.kept keep,?_⟩
 ·cases i with
  | zero=>simp at e2
  | succ j =>
   obtain ⟨i0,k1,k2,k3,k4,k5⟩ := F.at (σ := σ) j y v (by simpa [compCx] using e1) (by simpa using e2)
   obtain ⟨m0,hn0,hl0⟩ := I.loc
   obtain ⟨u,r,l⟩ := hl0 i0 y v k1 k2 (.inr (.inl k3))
   refine ⟨u,r,?_⟩
   rcases l with ⟨z,_⟩ | ⟨_,c,e,o,ho,hd⟩
   ·rw [k3] at z; cases z
   ·exact .inr ⟨.inl k4,c,k5.trans e,o,keep c o ho,hd⟩
 ·obtain ⟨v,o,ho,hd⟩ := I.cell y c (hcl y c e)
  exact ⟨v,o,keep c o ho,hd⟩
 ·show (none :: frV σ fr).length = (x :: fx).length
  simp [frV,F.len]
theorem fqI {N' : List Str} {pins' : List (Addr × Obj)} {σ' : St} {H2 : Hp} {s' : Shared} {h' : Heap} (I : Inv X pins σ H1 s3) (J : Inv (compCx X N' scope cl s3 H1 fp) pins' σ' H2 s') (ffp : ∀ b ∈ fp,FpOk X pins H1 b)
  (sb : Heap.SameBut s3.heap.objs.size s'.heap h') : Inv X pins σ H2 { s' with heap := h' } := by
 have k : ∀ b u,b ≠ s3.heap.objs.size -> s'.heap.get? b = some u -> h'.get? b = some u := fun b u hb e=>sb.extBut b u hb e
 have lt : ∀ b u,s3.heap.get? b = some u -> b ≠ s3.heap.objs.size := fun b u e=>Nat.ne_of_lt (Heap.lt_size e)
 have u : Un (frs X.stack) fp H1 H2 s3.heap s'.heap := J.base
 have u' : Un (frs X.stack) fp H1 H2 s3.heap h' :=
  ⟨fun b o q n hb hx=>k b o (lt b o q) (u.keep b o q n hb hx),fun b o q n hb hx=>by
    obtain ⟨sl,e⟩ := u.slot b o q n hb hx
    exact ⟨sl,k b _ (lt b o q) e⟩,u.free,fun b o q hx=>by
    obtain ⟨o',e⟩ := u.there b o q hx
    exact ⟨o',k b _ (lt b o q) e⟩,u.tups,u.frzs,u.tbls⟩
 have nC : H2 s3.heap.objs.size = none := J.free
 have hok : HOk X.prog X.w H2 h' := fun b uo e=>by
  refine (J.hok b uo e).stay (fun c v hc q=>k c v ?_ q) (fun _ q=>q) fun _ _ q=>q
  rintro rfl
  rcases hc with z | z
  ·rw [<- z,nC] at e; cases e
  ·rw [nC] at z; cases z
 have os : s'.os = s3.os := J.os
 have bare := J.bare
 obtain ⟨hh,g,d,t,os'⟩ := s'
 obtain rfl : os' = s3.os := os
 have fin := I.call (h' := h') (g' := g) (d' := d) (t' := t) (ch := fp) u' hok bare fun b hb=>by
  obtain ⟨f0,f1,f2,f3,f4,f5⟩ := ffp b hb
  exact ⟨f3,f1,f4,f5⟩
 exact fin
end
def PF (X : Cx) (ifs : List Expr) (t : TT) : Prop :=
 ∀ (pins : List (Addr × Obj)) (s : Shared) (σ : St) (H : Hp) (Q : Bool -> Hp -> Prop),Inv X pins σ H s -> t σ H Q ->
  wpAny (model X.prog X.w) X.A (forIn ifs true fun c r=>if r = true then do let ok <- isTrue c X.env (eval c X.env); pure (ForInStep.yield ok) else pure (ForInStep.yield r)) (TP X pins σ Q) X.xe s
def tYes : TT := fun _ H Q=>Q true H
theorem jqf {X : Cx} : PF X [] tYes := fun _ _ _ H _ I h=>wpAny_tests_nil ⟨H,I,h⟩
theorem fq9 {X : Cx} {c : Expr} {t : TT} (h : PT X c t) : PF X [c] t := fun pins s σ H Q I q=>wpAny_tests_one (h pins s σ H Q I q)
def CompI (J : It) (p : Addr) (fv : St) (tt : TT) (te : TE) (Q : VK) (H1 : Hp) : Prop :=
 ∃ W : Nat -> Nat -> List V -> Hp -> Prop,(∃ m,W 0 m [] (upd H1 p (.lst []))) /\ ∀ i m ys H2,W i m ys H2 -> H2 p = some (.lst ys) /\
  ((J.stop i H2 /\ Q (.ref p) H2) \/ (J.go i H2 /\ ys.length < sizeLine /\ ∀ x H3,J.yld i H2 x H3 -> tt (some x :: fv) H3 fun b H4 =>
   if b = true then te (some x :: fv) H4 fun y H5=>H5 p = some (.lst ys) /\ ∃ m',m' < m /\ W (i + 1) m' (ys ++ [y]) (upd H5 p (.lst (ys ++ [y])))
   else ∃ m',m' < m /\ W (i + 1) m' ys H4))
def tComp (wi : TI) (fr : List Nat) (tt : TT) (te : TE) : TE := fun σ H Q=>wi σ H fun J H1=>∀ p,H1 p = none -> CompI J p (frV σ fr) tt te Q H1
section
variable {X : Cx} {elt iter : Expr} {x : Str} {px pos : Pos} {ifs : List Expr} {scope : Scope} {cl : List (Str × Addr)} {fx : List Str} {fr : List Nat} {wi : TI} {tt : TT} {te : TE}
theorem iq8 {pins : List (Addr × Obj)} {σ : St} {H3 : Hp} {s3 : Shared} {it p : Addr} {fp : List Addr} {tn : Nat -> Heap -> Prop} {J : It} {Q : VK} {W : Nat -> Nat -> List V -> Hp -> Prop} {m0 t : Nat} {h₁ : Heap} {m : Str -> Option Value} {RR : Result -> Shared -> Prop}
  (hc : X.calm = true) (hkind : scope.kind = .function) (hx : scope.names.lookup x = some .local) (hnd : (x :: fx).Nodup)
  (hcl : ∀ y c,cl.lookup y = some c -> X.env.cells.lookup y = some c) (F : Frees X (relabel scope X.env) cl fx fr)
  (hfx : ((relabel scope X.env).names.all fun p=>if (p.2 == .cell || p.2 == .free) then fx.contains p.1 else true) = true)
  (ht : ∀ s H fp,PF (compCx X (x :: fx) scope cl s H fp) ifs tt) (he : ∀ s H fp,PE (compCx X (x :: fx) scope cl s H fp) elt te)
  (I3 : Inv X pins σ H3 s3) (T : Turn X.prog X.w X.K (.Name x px) J fp it tn) (st3 : tn 0 s3.heap) (ffp : ∀ b ∈ fp,FpOk X pins H3 b) (flt3 : ∀ b ∈ fp,b < s3.heap.objs.size)
  (w0 : W 0 m0 [] H3) (turn : ∀ i m ys H2,W i m ys H2 -> H2 p = some (.lst ys) /\
   ((J.stop i H2 /\ Q (.ref p) H2) \/ (J.go i H2 /\ ys.length < sizeLine /\ ∀ x H3,J.yld i H2 x H3 -> tt (some x :: frV σ fr) H3 fun b H4 =>
    if b = true then te (some x :: frV σ fr) H4 fun y H5=>H5 p = some (.lst ys) /\ ∃ m',m' < m /\ W (i + 1) m' (ys ++ [y]) (upd H5 p (.lst (ys ++ [y])))
    else ∃ m',m' < m /\ W (i + 1) m' ys H4)))
  (hns : h₁.Ns s3.heap.objs.size m) (keep1 : ∀ b u,s3.heap.get? b = some u -> h₁.get? b = some u)
  (fin : ∀ s6 H5 o,Inv (compCx X (x :: fx) scope cl s3 H3 fp) [] (o :: frV σ fr) H5 s6 -> Q (.ref p) H5 -> RR (.ok .next) s6) :
  codeAny (model X.prog X.w) X.A (.compStart (.ListComp elt [⟨.Name x px,iter,ifs,0⟩] scope pos) 0 (.ref it) (.ref p) (compEnvC scope cl s3.heap.objs.size X.env))
   RR { s3 with heap := h₁,toks := t } := by
 have I4 := mqL (x := x) (t := t) I3 hkind hcl F hfx ffp flt3 hns keep1
 have st4 : tn 0 h₁ := T.keep _ _ _ st3 fun b hb o e=>keep1 b o e
 have fp0 : ∀ b ∈ fp,H3 b = none := fun b hb=>(ffp b hb).1
 have hcal : (compCx X (x :: fx) scope cl s3 H3 fp).calm = true := hc
 have stat : ∀ {H' : Hp},(∀ b ∈ fp,H' b = none) -> ∀ b ∈ fp,FpOk (compCx X (x :: fx) scope cl s3 H3 fp) [] H' b := fun {H'} hn b hb=>by
  obtain ⟨f0,f1,f2,f3,f4,f5⟩ := ffp b hb
  exact ⟨hn b hb,Nat.ne_of_lt (flt3 b hb),I4.ok.exfs b hb,.inl hb,fun y c e=>f4 y c (hcl y c e),fun q hq=>absurd (show q ∈ ([] : List (Addr × Obj)) from hq) (by simp)⟩
 have hxl : (relabel scope X.env).names.lookup x = some .local := lookup_relabel_local hx
 have pg : PG (compCx X (x :: fx) scope cl s3 H3 fp) (.Name x px) (gName 0) := aqF (i := 0) hnd rfl (.inl hxl) (.inr hxl)
 have loop : codeAny (model X.prog X.w) X.A (.compLoop (.ListComp elt [⟨.Name x px,iter,ifs,0⟩] scope pos) 0 (.ref it) (.ref p) (compEnvC scope cl s3.heap.objs.size X.env))
    RR { s3 with heap := h₁,toks := t } := by
  refine gq4 (fun n s' => ∃ i ys H' o,Inv (compCx X (x :: fx) scope cl s3 H3 fp) [] (o :: frV σ fr) H' s' /\ tn i s'.heap /\ (∀ b ∈ fp,H' b = none) /\ W i n ys H') ?_ m0 ⟨0,[],_,none,I4,st4,fp0,w0⟩
  rintro n s5 ⟨i,ys,H5,o,I5,st5,fr5,w5⟩
  obtain ⟨hp5,alt⟩ := turn i n ys H5 w5
  rcases alt with ⟨stop,qn⟩ | ⟨go,hlen,step⟩
  ·refine thn (T.done (compCx X (x :: fx) scope cl s3 H3 fp) rfl rfl rfl hcal i [] s5 (o :: frV σ fr) H5 _ I5 (stat fr5) st5 stop) fun r s6 W' => ?_
   obtain ⟨hr,I6⟩ := W'
   subst hr
   exact fin s6 H5 o I6 qn
  ·refine thn (T.item (compCx X (x :: fx) scope cl s3 H3 fp) rfl rfl rfl hcal i [] s5 (o :: frV σ fr) H5 _ I5 (stat fr5) st5 go) fun r s6 W' => ?_
   obtain ⟨u,hr,h6⟩ := W'
   subst hr
   refine thn h6 fun _ s7 W' => ?_
   obtain ⟨y7,H7,I7,r7,yl7,st7,fr7⟩ := W'
   have I7' := I7.pinned (stat fr7) (T.obj _ _ st7)
   have back : ∀ {σ' : St} {H' : Hp} {s' : Shared},Inv (compCx X (x :: fx) scope cl s3 H3 fp) ([] ++ pinsAt fp s7.heap) σ' H' s' -> tn (i + 1) s'.heap /\ ∀ b ∈ fp,H' b = none := fun {σ' H' s'} I' => by
    refine ⟨T.keep _ _ _ st7 fun b hb o e=>(I'.pin (b,o) (List.mem_append_right _ (List.mem_append_right _ (cqP hb e)))).1,fun b hb=>?_⟩
    obtain ⟨o,e,d⟩ := T.obj _ _ st7 b hb
    exact (I'.pin (b,o) (List.mem_append_right _ (List.mem_append_right _ (cqP hb e)))).2.1
   refine thn (pg _ s7 _ H7 y7 u (fun σ' H' => σ' = some y7 :: frV σ fr /\ H' = H7) I7' r7 ⟨rfl,rfl⟩) fun _ s8 W' => ?_
   obtain ⟨σ8,H8,I8,e8,e8'⟩ := W'
   subst e8 e8'
   refine thn (ht s3 H3 fp _ s8 _ _ _ I8 (step y7 _ yl7)) fun b s9 W' => ?_
   obtain ⟨H9,I9,q9⟩ := W'
   cases b with
   | false =>
    rw [if_neg Bool.false_ne_true] at q9 ⊢
    obtain ⟨m',hm,w9⟩ := q9
    exact ⟨m',hm,i + 1,ys,H9,some y7,I9.unpinned,(back I9).1,(back I9).2,w9⟩
   | true =>
    rw [if_pos rfl] at q9 ⊢
    refine thn (he s3 H3 fp _ s9 _ H9 _ I9 q9) fun u10 s10 W' => ?_
    obtain ⟨y10,H10,I10,r10,hp10,m',hm,w10⟩ := W'
    refine thn (aq2 _ s10 _ H10 (.ref p) [y10] (.ref p) [u10] (fun _ H' => H' = upd H10 p (.lst (ys ++ [y10]))) I10 rfl (.cons r10 .nil) ⟨p,ys,y10,rfl,rfl,hp10,hlen,rfl⟩) fun _ s11 W' => ?_
    obtain ⟨_,H11,I11,_,e11⟩ := W'
    subst e11
    exact ⟨m',hm,i + 1,ys ++ [y10],_,some y7,I11.unpinned,(back I11).1,(back I11).2,w10⟩
 exact codeAny_compStart_list loop (T.self _ 0 _ _ _ st4 loop)
theorem dqu (hc : X.calm = true) (hclos : closureFor scope X.env = pure cl) (hcell : ∀ y ∈ scope.names,y.2 ≠ .cell) (hkind : scope.kind = .function)
  (hnames : ∀ y ∈ scope.names,y.2 = .local -> scope.names.lookup y.1 = some .local) (hx : scope.names.lookup x = some .local) (hnd : (x :: fx).Nodup)
  (hk : (cl.all fun q=>fx.contains q.1) = true) (F : Frees X (relabel scope X.env) cl fx fr)
  (hfx : ((relabel scope X.env).names.all fun p=>if (p.2 == .cell || p.2 == .free) then fx.contains p.1 else true) = true)
  (hi : PI X (.Name x px) iter wi) (ht : ∀ s H fp,PF (compCx X (x :: fx) scope cl s H fp) ifs tt) (he : ∀ s H fp,PE (compCx X (x :: fx) scope cl s H fp) elt te)
  (hs : ∀ x,foldedSetIterable iter X.env x = pure x := by intro _; rfl) :
  PE X (.ListComp elt [⟨.Name x px,iter,ifs,0⟩] scope pos) (tComp wi fr tt te) := by
 intro pins s σ H Q I h
 have hcl : ∀ y c,cl.lookup y = some c -> X.env.cells.lookup y = some c := fun y c e=>by
  have q := List.all_eq_true.mp hk _ (PySem.mem_of_lookup e)
  rw [<- (F.mem y (by simpa using q)).2]
  exact e
 rw [eval_ListComp]
 refine wpAny_comprehension_free (use := none) rfl hs hclos hkind hnames ?_
 refine thn (hi pins s σ H _ I h) fun v s1 h1=>thn h1 fun itv s2 h2=>?_
 obtain ⟨it,fp,tn,J,H2,e,I2,T,st2,f2,q2⟩ := h2
 subst e
 have hp0 : H2 s2.heap.objs.size = none := I2.hok.fresh (Nat.le_refl _)
 obtain ⟨W,⟨m0,w0⟩,turn⟩ := q2 _ hp0
 have flt : ∀ b ∈ fp,b < s2.heap.objs.size := fun b hb=>by
  obtain ⟨o,e,_⟩ := T.obj _ _ st2 b hb
  exact Heap.lt_size e
 refine wpAny_newObj_type (wpAny_newFunctionEnv hcell (by intro y hy; simp at hy) (fun h₁ hns₁ hsb₁=>?_) hkind)
 dsimp only at hns₁ hsb₁ ⊢
 have hlay : ∀ b u,s2.heap.get? b = some u -> (s2.heap.push { cls := .type "list", dict := none,data := .seq ([] : List Value).toArray }).get? b = some u := fun b u e=>Heap.get?_push_of_some _ e
 have hnew : (s2.heap.push { cls := .type "list", dict := none,data := .seq ([] : List Value).toArray }).get? s2.heap.objs.size = some { cls := .type "list", dict := none,data := .seq ([] : List Value).toArray } := Heap.get?_push_size _ rfl
 have hsz : (s2.heap.push { cls := .type "list", dict := none,data := .seq ([] : List Value).toArray }).objs.size = s2.heap.objs.size + 1 := Heap.size_push _ _
 generalize hHH : s2.heap.push { cls := .type "list", dict := none,data := .seq ([] : List Value).toArray } = HH at hns₁ hsb₁ hlay hnew hsz ⊢
 have I3 : Inv X pins σ (upd H2 s2.heap.objs.size (.lst [])) { s2 with heap := HH,toks := s2.toks } :=
  I2.laid (t' := s2.toks) (o := .lst []) hlay (Nat.le_refl _) ⟨Nat.zero_le _,[],0,.nil,hnew⟩
 have ffp : ∀ b ∈ fp,FpOk X pins (upd H2 s2.heap.objs.size (.lst [])) b := fun b hb=>by
  obtain ⟨f0,fr'⟩ := f2 b hb
  exact ⟨by rw [aqo (Nat.ne_of_lt (flt b hb))]; exact f0,fr'⟩
 have keep1 : ∀ b u,HH.get? b = some u -> h₁.get? b = some u := fun b u e=>hsb₁.extBut b u (Nat.ne_of_lt (Heap.lt_size e)) (Heap.get?_push_of_some _ e)
 exact iq8 (s3 := { s2 with heap := HH,toks := s2.toks }) hc hkind hx hnd hcl F hfx ht he I3 T (T.keep _ _ _ st2 fun b hb o e=>hlay b o e) ffp (fun b hb=>by show b < HH.objs.size; rw [hsz]; exact Nat.lt_succ_of_lt (flt b hb)) w0 turn hns₁ keep1 fun s6 H5 o I6 qn=>by
  obtain ⟨m,hn6,_⟩ := id I6.loc
  exact ⟨m,hn6,fun h' sb=>⟨.ref _,H5,fqI I3 I6 ffp sb,rfl,qn⟩⟩
theorem nqJ {i : Nat} {y : Str} {py spos : Pos} (hN : X.N.Nodup) (hiN : X.N[i]? = some y) (hy : X.env.scope.names.lookup y = some .local)
  (hc : X.calm = true) (hclos : closureFor scope X.env = pure cl) (hcell : ∀ y ∈ scope.names,y.2 ≠ .cell) (hkind : scope.kind = .function)
  (hnames : ∀ y ∈ scope.names,y.2 = .local -> scope.names.lookup y.1 = some .local) (hx : scope.names.lookup x = some .local) (hnd : (x :: fx).Nodup)
  (hk : (cl.all fun q=>fx.contains q.1) = true) (F : Frees X (relabel scope X.env) cl fx fr)
  (hfx : ((relabel scope X.env).names.all fun p=>if (p.2 == .cell || p.2 == .free) then fx.contains p.1 else true) = true)
  (hi : PI X (.Name x px) iter wi) (ht : ∀ s H fp,PF (compCx X (x :: fx) scope cl s H fp) ifs tt) (he : ∀ s H fp,PE (compCx X (x :: fx) scope cl s H fp) elt te)
  (hs : ∀ x,foldedSetIterable iter X.env x = pure x := by intro _; rfl) (hsw : swapsWith (.ListComp elt [⟨.Name x px,iter,ifs,0⟩] scope pos) (some (.Name y py)) spos.line X.env = pure true := by rfl) :
  PS X (.Assign [.Name y py] (.ListComp elt [⟨.Name x px,iter,ifs,0⟩] scope pos) spos) (tAsg (tComp wi fr tt te) (gName i)) := by
 intro pins s σ H D I h
 have hcl : ∀ y c,cl.lookup y = some c -> X.env.cells.lookup y = some c := fun y c e=>by
  have q := List.all_eq_true.mp hk _ (PySem.mem_of_lookup e)
  rw [<- (F.mem y (by simpa using q)).2]
  exact e
 rw [exec_Assign_Name_used _ _ _ _ hsw]
 refine wpAny_bind (wpAny_standAt (wpAny_bind ?_))
 show wpAny _ X.A (do let _ <- comprehension (.ListComp elt [⟨.Name x px,iter,ifs,0⟩] scope pos) scope X.env _ (newList []) false (eval iter X.env) (some (assign (.Name y py) X.env))) _ _ s
 refine wpAny_bind (wpAny_mono (wpAny_comprehension_free (use := some (assign (.Name y py) X.env)) (Q := fun _ s' => SP X pins D .next s') rfl hs hclos hkind hnames ?_) (fun _ s' hq=>wpAny_pure (wpAny_pure hq)) fun _ _ e=>e)
 refine thn (hi pins s σ H _ I h) fun v s1 h1=>thn h1 fun itv s2 h2=>?_
 obtain ⟨it,fp,tn,J,H2,e,I2,T,st2,f2,q2⟩ := h2
 subst e
 have hp0 : H2 s2.heap.objs.size = none := I2.hok.fresh (Nat.le_refl _)
 obtain ⟨W,⟨m0,w0⟩,turn⟩ := q2 _ hp0
 have flt : ∀ b ∈ fp,b < s2.heap.objs.size := fun b hb=>by
  obtain ⟨o,e,_⟩ := T.obj _ _ st2 b hb
  exact Heap.lt_size e
 refine wpAny_newObj_type (wpAny_newFunctionEnv hcell (by intro y hy; simp at hy) (fun h₁ hns₁ hsb₁=>?_) hkind)
 dsimp only at hns₁ hsb₁ ⊢
 have hlay : ∀ b u,s2.heap.get? b = some u -> (s2.heap.push { cls := .type "list", dict := none,data := .seq ([] : List Value).toArray }).get? b = some u := fun b u e=>Heap.get?_push_of_some _ e
 have hnew : (s2.heap.push { cls := .type "list", dict := none,data := .seq ([] : List Value).toArray }).get? s2.heap.objs.size = some { cls := .type "list", dict := none,data := .seq ([] : List Value).toArray } := Heap.get?_push_size _ rfl
 have hsz : (s2.heap.push { cls := .type "list", dict := none,data := .seq ([] : List Value).toArray }).objs.size = s2.heap.objs.size + 1 := Heap.size_push _ _
 generalize hHH : s2.heap.push { cls := .type "list", dict := none,data := .seq ([] : List Value).toArray } = HH at hns₁ hsb₁ hlay hnew hsz ⊢
 have I3 : Inv X pins σ (upd H2 s2.heap.objs.size (.lst [])) { s2 with heap := HH,toks := s2.toks } :=
  I2.laid (t' := s2.toks) (o := .lst []) hlay (Nat.le_refl _) ⟨Nat.zero_le _,[],0,.nil,hnew⟩
 have ffp : ∀ b ∈ fp,FpOk X pins (upd H2 s2.heap.objs.size (.lst [])) b := fun b hb=>by
  obtain ⟨f0,fr'⟩ := f2 b hb
  exact ⟨by rw [aqo (Nat.ne_of_lt (flt b hb))]; exact f0,fr'⟩
 have keep1 : ∀ b u,HH.get? b = some u -> h₁.get? b = some u := fun b u e=>hsb₁.extBut b u (Nat.ne_of_lt (Heap.lt_size e)) (Heap.get?_push_of_some _ e)
 exact iq8 (Q := fun x H1=>gName i x σ H1 D.nx) (s3 := { s2 with heap := HH,toks := s2.toks }) hc hkind hx hnd hcl F hfx ht he I3 T (T.keep _ _ _ st2 fun b hb o e=>hlay b o e) ffp (fun b hb=>by show b < HH.objs.size; rw [hsz]; exact Nat.lt_succ_of_lt (flt b hb)) w0 turn hns₁ keep1 fun s6 H5 o I6 qn=>by
  have nC : H5 HH.objs.size = none := I6.free
  have I7 : Inv X pins σ H5 s6 := fqI (h' := s6.heap) I3 I6 ffp ⟨rfl,fun _ _=>rfl⟩
  obtain ⟨f0,f1,f2,f3,f4,f5⟩ := I3.fpOk (H' := H5) (b := HH.objs.size) (Nat.le_refl _) nC
  obtain ⟨m,hn6,_⟩ := id I6.loc
  show wpAny _ X.A (assign (.Name y py) X.env (.ref _)) _ _ s6
  refine wpAny_assign_Name (hqR I7 hN hiN (.inl hy) (v := .ref _) rfl (fun s8 I8 sbx=>?_) (.inr hy))
  obtain ⟨a,sb,ha⟩ := sbx
  have hne : HH.objs.size ≠ a := by
   rcases ha with rfl | ha
   ·exact f1
   ·exact fun z=>f4 y a ha z.symm
  refine ⟨m,hn6.sameBut sb hne,fun h' sb' => ?_⟩
  exact ⟨_,H5,I8.turned (t' := s8.toks) (it := HH.objs.size) (fun b o hb e=>sb'.extBut b o hb e) f0 f1 f3 f4 f5,qn⟩
end
section
variable {p : Addr} {fv : St} {te : TE} {Q : VK} {H1 : Hp}
theorem pqO {z : Str} (hz : z.length <= sizeLine) (hp : H1 p = none) (f : Nat -> V)
  (he : ∀ c,c ∈ z.cps.toList -> ∀ (H' : Hp) (R : VK),(∀ H'',Same H' H'' -> R (f c) H'') -> te (some (.str ⟨#[c]⟩) :: fv) H' R)
  (hQ : ∀ H',Same H1 H' -> H' p = some (.lst (z.cps.toList.map f)) -> Q (.ref p) H') : CompI (Its z) p fv tYes te Q H1 := by
 have hl : z.cps.toList.length = z.length := by simp [Str.length]
 refine ⟨fun i m ys H2=>m = z.length - i /\ i <= z.length /\ ys = (z.cps.toList.take i).map f /\ H2 p = some (.lst ys) /\ Same H1 H2,⟨z.length,by simp,Nat.zero_le _,by simp,aqj,fun b o e=>by rw [aqo (aqm e hp)]; exact e⟩,?_⟩
 rintro i m ys H2 ⟨rfl,hi,rfl,hp2,sm⟩
 refine ⟨hp2,?_⟩
 by_cases hlt : i < z.length
 ·refine .inr ⟨hlt,?_,fun x H3 y=>?_⟩
  ·rw [List.length_map,List.length_take]; omega
  ·obtain ⟨rfl,c,hc,rfl⟩ := y
   unfold tYes
   dsimp only
   rw [if_pos rfl]
   refine he c (List.mem_of_getElem? hc) _ _ fun H5 s5=>⟨s5 _ _ hp2,z.length - (i + 1),by omega,rfl,hlt,?_,aqj,fun b o e=>?_⟩
   ·rw [List.take_add_one,hc,List.map_append]; rfl
   ·rw [aqo (aqm e hp)]; exact s5 _ _ (sm _ _ e)
 ·have e : i = z.length := by omega
  subst e
  refine .inl ⟨Nat.le_refl _,hQ H2 sm ?_⟩
  rw [hp2,<- hl,List.take_length]
theorem iqY {z : Str} {tt : TT} (hz : z.length <= sizeLine) (hp : H1 p = none) (g : Nat -> Bool) (f : Nat -> V)
  (ht : ∀ c,c ∈ z.cps.toList -> ∀ (H' : Hp) (R : Bool -> Hp -> Prop),(∀ H'',Same H' H'' -> R (g c) H'') -> tt (some (.str ⟨#[c]⟩) :: fv) H' R)
  (he : ∀ c,c ∈ z.cps.toList -> ∀ (H' : Hp) (R : VK),(∀ H'',Same H' H'' -> R (f c) H'') -> te (some (.str ⟨#[c]⟩) :: fv) H' R)
  (hQ : ∀ H',Same H1 H' -> H' p = some (.lst ((z.cps.toList.filter g).map f)) -> Q (.ref p) H') : CompI (Its z) p fv tt te Q H1 := by
 have hl : z.cps.toList.length = z.length := by simp [Str.length]
 refine ⟨fun i m ys H2=>m = z.length - i /\ i <= z.length /\ ys = ((z.cps.toList.take i).filter g).map f /\ H2 p = some (.lst ys) /\ Same H1 H2,⟨z.length,by simp,Nat.zero_le _,by simp,aqj,fun b o e=>by rw [aqo (aqm e hp)]; exact e⟩,?_⟩
 rintro i m ys H2 ⟨rfl,hi,rfl,hp2,sm⟩
 refine ⟨hp2,?_⟩
 by_cases hlt : i < z.length
 ·refine .inr ⟨hlt,?_,fun x H3 y=>?_⟩
  ·rw [List.length_map]
   have := List.length_filter_le g (z.cps.toList.take i)
   rw [List.length_take] at this
   omega
  ·obtain ⟨rfl,c,hc,rfl⟩ := y
   have et : z.cps.toList.take (i + 1) = z.cps.toList.take i ++ [c] := by rw [List.take_add_one,hc]; rfl
   refine ht c (List.mem_of_getElem? hc) _ _ fun H4 s4=>?_
   cases hg : g c with
   | false =>
    rw [if_neg Bool.false_ne_true]
    refine ⟨z.length - (i + 1),by omega,rfl,hlt,?_,s4 _ _ hp2,sm.trans s4⟩
    rw [et,List.filter_append,List.filter_cons,hg]
    simp
   | true =>
    rw [if_pos rfl]
    refine he c (List.mem_of_getElem? hc) _ _ fun H5 s5=>⟨s5 _ _ (s4 _ _ hp2),z.length - (i + 1),by omega,rfl,hlt,?_,aqj,fun b o e=>?_⟩
    ·rw [et,List.filter_append,List.filter_cons,hg]
     simp
    ·rw [aqo (aqm e hp)]; exact s5 _ _ (s4 _ _ (sm _ _ e))
 ·have e : i = z.length := by omega
  subst e
  refine .inl ⟨Nat.le_refl _,hQ H2 sm ?_⟩
  rw [hp2,<- hl,List.take_length]
end
section
variable {σ : St} {H : Hp} {Q : VK} {K : PySem.W.Frag} {tl te : TE} {tt : TT} {fr : List Nat}
theorem qqw : frV σ [] = [] := rfl
theorem pqf {i : Nat} {r : List Nat} : frV σ (i :: r) = (σ[i]?).getD none :: frV σ r := rfl
theorem sqR {z : Str} {p : Addr} : rJoin K (.str z) [.ref p] H Q ↔ ∃ ys : List Str,SqL K H p (ys.map V.str) /\ (ys.map (·.length)).sum + ys.length * z.length <= 16777216 /\ Q (.str (Txt.join z ys)) H := by
 constructor
 ·rintro ⟨z',p',ys,h1,h2,h3⟩
  cases h1; cases h2
  exact ⟨ys,h3⟩
 ·rintro ⟨ys,h⟩
  exact ⟨z,p,ys,rfl,rfl,h⟩
theorem pq0 : (tComp (iStr tl) fr tt te σ H Q) = (tl σ H fun x H1=>∃ z,x = .str z /\ ∀ p,H1 p = none -> CompI (Its z) p (frV σ fr) tt te Q H1) := rfl
theorem pqn : (tComp (iList K tl) fr tt te σ H Q) = (tl σ H fun x H1=>∃ a,x = .ref a /\ (∃ xs,SqL K H1 a xs) /\ ∀ p,H1 p = none -> CompI (Itl K a) p (frV σ fr) tt te Q H1) := rfl
end
section
variable {X : Cx} {K : PySem.W.Frag}
theorem hqN (h : X.K = K) : OpR X (binaryOp .Add) (rAddU K) := by subst h; exact nqo
theorem aqe (h : X.K = K) : IxR X (rIx K) := by subst h; exact tqi
theorem nq7 (h : X.K = K) : SlR X (rSl K) := by subst h; exact sqr
theorem aqw (h : X.K = K) : CallR X (.builtin "len") (rLenU K) := by subst h; exact nqK
theorem fqe {tg l : Expr} {tl : TE} (h : X.K = K) (hl : PE X l tl) : PI X tg l (iList K tl) := by subst h; exact rqq hl
variable {o e : Expr} {es : List Expr} {to : TE} {t : TA} {name : Str} {apos cpos : Pos} {T id : String} {r : V -> List V -> Hp -> VK -> Prop}
theorem rqc (h : X.K = K) (pa : PlainAttrs T) (slot : Slot T name id) (hty : typeOf (.builtin id) = pure (.type "method_descriptor")) (hm : MtR X id r) (ho : PE X o to)
  (hbase : attributeBase o name X.env (eval o X.env) = eval o X.env := by rfl) (hline : (apos.endLine == cpos.line) = true := by rfl) : PE X (.Call (.Attribute o name apos) [] [] cpos) (tBM0 K T r to) := by
 subst h; exact sq6 pa slot hty hm ho hbase hline
theorem cqx (h : X.K = K) (pa : PlainAttrs T) (slot : Slot T name id) (hty : typeOf (.builtin id) = pure (.type "method_descriptor")) (hm : MtR X id r) (ho : PE X o to) (ha : PA X (e :: es) t)
  (hbase : attributeBase o name X.env (eval o X.env) = eval o X.env := by rfl)
  (hfew : ((backTo cpos (starEach (e :: es) X.env)).all (fun x=>!x.1) && (backToKw cpos (keywordEach [] X.env)).all (fun x=>x.1.isSome)
   && decide ((e :: es).length + ([] : List Keyword).length + (if ([] : List Keyword).isEmpty then 0 else 1) < 30)) = true := by rfl)
  (hline : (apos.endLine == cpos.line) = true := by rfl) (hs : starEach (e :: es) X.env = (false,eval e X.env) :: starEach es X.env := by rfl) (hplain : (backTo cpos (starEach es X.env)).any (·.1) = false := by rfl) :
  PE X (.Call (.Attribute o name apos) (e :: es) [] cpos) (tBM K T r to t) := by
 subst h; exact tqD pa slot hty hm ho ha hbase hfew hline hs hplain
end
structure FunD (K : PySem.W.Frag) (x qual : Str) (st : Stmt) (f : Addr) (fd : FuncData) (T : Addr) : Prop where
 ex : ∃ (oc : Value) (od : Option Addr) (kV doc pm : Value) (an : Option Addr) (cdv ct : Value) (osl : Array (Option Value)),
  fd = PySem.W.fnOf x qual (defArgs st) (defBody st) (defScope st) (.ref T) kV doc pm an cdv ct /\ K.lookup f = some ⟨oc,od,.func fd,osl⟩ /\ PySem.W.codeIn K cdv qual = true
 kp : PySem.W.keepIn K (.ref f) = true
section
variable {P : Program} {w : World} {K : PySem.W.Frag} {mg : Str -> Option Value} {base : Heap}
end
theorem rqu {c : TT} {tb : TS} {D : Ends} {σ : St} {H : Hp} (W : Nat -> St -> Hp -> Prop) (m0 : Nat) (h0 : W m0 σ H)
  (hs : ∀ m σ H,W m σ H -> c σ H fun b H1=>if b = true then ∃ N : St -> Hp -> Prop,(∀ σ' H',N σ' H' -> ∃ m',m' < m /\ W m' σ' H') /\ tb { D with nx := N,ct := N,bk := D.nx } σ H1 else D.nx σ H1) : tWhile c tb D σ H := ⟨W,⟨m0,h0⟩,hs⟩
section
variable {σ : St} {H : Hp} {Q : VK}
theorem tqw {r : V -> Hp -> VK -> Prop} {ta : TE} : (tUn r ta σ H Q) = (ta σ H fun x H1=>r x H1 Q) := rfl
theorem rd_U {g : Int -> V} {i : Int} : rU g (.int i) H Q ↔ Q (g i) H := ⟨fun ⟨_,h1,h2⟩=>by cases h1; exact h2,fun h=>⟨i,rfl,h⟩⟩
theorem sq1 {l : Addr} {y : V} : rAppend (.ref l) [y] H Q ↔ ∃ xs,H l = some (.lst xs) /\ xs.length < sizeLine /\ Q .non (upd H l (.lst (xs ++ [y]))) := by
 constructor
 ·rintro ⟨l',xs,y',h1,h2,h3⟩
  cases h1; cases h2
  exact ⟨xs,h3⟩
 ·rintro ⟨xs,h⟩
  exact ⟨l,xs,y,rfl,rfl,h⟩
theorem rqE {K : PySem.W.Frag} {p : Addr} : tyV K "list" (.ref p) H ↔ ∃ xs,SqL K H p xs := by
 constructor
 ·rintro (⟨_,h⟩ | ⟨h,_⟩ | ⟨h,_⟩ | ⟨h,_⟩)
  ·exact h
  ·exact absurd h (by decide)
  ·exact absurd h (by decide)
  ·exact absurd h (by decide)
 ·intro h; exact .inl ⟨rfl,h⟩
end
mutual
inductive Is (H : Hp) : PyData -> V -> Prop
 | non : Is H .none .non
 | bl (b : Bool) : Is H (.bool b) (.bl b)
 | int (i : Int) : Is H (.int i) (.int i)
 | str (x : Str) : Is H (.str x) (.str x)
 | lst {p : Addr} {xs : List V} {ds : List PyData} : H p = some (.lst xs) -> IsAll H ds xs -> Is H (.list ds) (.ref p)
 | tup {p : Addr} {xs : List V} {ds : List PyData} : H p = some (.tup xs) -> IsAll H ds xs -> Is H (.tuple ds) (.ref p)
inductive IsAll (H : Hp) : List PyData -> List V -> Prop
 | nil : IsAll H [] []
 | cons {d : PyData} {x : V} {ds : List PyData} {xs : List V} : Is H d x -> IsAll H ds xs -> IsAll H (d :: ds) (x :: xs)
end
mutual
theorem Is.mono {H H' : Hp} (sm : Same H H') : ∀ {d : PyData} {x : V},Is H d x -> Is H' d x
 | _,_,.non=>.non
 | _,_,.bl b=>.bl b
 | _,_,.int i=>.int i
 | _,_,.str x=>.str x
 | _,_,.lst h r=>.lst (sm _ _ h) (IsAll.mono sm r)
 | _,_,.tup h r=>.tup (sm _ _ h) (IsAll.mono sm r)
theorem IsAll.mono {H H' : Hp} (sm : Same H H') : ∀ {ds : List PyData} {xs : List V},IsAll H ds xs -> IsAll H' ds xs
 | _,_,.nil=>.nil
 | _,_,.cons h r=>.cons (Is.mono sm h) (IsAll.mono sm r)
end
theorem IsAll.length {H : Hp} : ∀ {ds : List PyData} {xs : List V},IsAll H ds xs -> ds.length = xs.length
 | _,_,.nil=>rfl
 | _,_,.cons _ r=>by rw [List.length_cons,List.length_cons,IsAll.length r]
theorem IsAll.at {H : Hp} : ∀ {ds : List PyData} {xs : List V},IsAll H ds xs -> ∀ (i : Nat) (x : V),xs[i]? = some x -> ∃ d,ds[i]? = some d /\ Is H d x
 | _,_,.nil,i,x,h=>by simp at h
 | _,_,.cons q r,0,x,h=>by simp at h; subst h; exact ⟨_,rfl,q⟩
 | _,_,.cons q r,i + 1,x,h=>by
  obtain ⟨d,h1,h2⟩ := r.at i x (by simpa using h)
  exact ⟨d,by simpa using h1,h2⟩
section
variable {X : Cx} {pins : List (Addr × Obj)} {σ : St} {H : Hp} {s : Shared}
mutual
theorem Is.reads (I : Inv X pins σ H s) : ∀ {d : PyData} {x : V} {v : Value},Is H d x -> RelV x v -> ∃ as,Reads s.heap v d as
 | _,_,_,.non,r=>by cases r; exact ⟨_,.none⟩
 | _,_,_,.bl b,r=>by cases r; exact ⟨_,.bool b⟩
 | _,_,_,.int i,r=>by obtain ⟨t,rfl⟩ := r; exact ⟨_,.int i t⟩
 | _,_,_,.str x,r=>by obtain ⟨t,rfl⟩ := r; exact ⟨_,.str x t⟩
 | _,_,_,.lst h q,r=>by
  cases r
  obtain ⟨its,vs,⟨o,n,e,c,_,dt⟩,_⟩ := I.list (SqL.of h)
  obtain ⟨as,ra⟩ := IsAll.reads I q vs
  exact ⟨_,.list e c dt (by simpa using ra)⟩
 | _,_,_,.tup h q,r=>by
  cases r
  obtain ⟨its,vs,⟨o,e,c,n,dt⟩,_⟩ := I.tuple (SqT.of h)
  obtain ⟨as,ra⟩ := IsAll.reads I q vs
  exact ⟨_,.tuple e c dt (by simpa using ra)⟩
theorem IsAll.reads (I : Inv X pins σ H s) : ∀ {ds : List PyData} {xs : List V} {vs : List Value},IsAll H ds xs -> Vals xs vs -> ∃ as,ReadsAll s.heap vs ds as
 | _,_,_,.nil,r=>by cases r; exact ⟨_,.nil⟩
 | _,_,_,.cons q t,r=>by
  cases r with
  | cons r1 r2 =>
   obtain ⟨as,h1⟩ := Is.reads I q r1
   obtain ⟨bs,h2⟩ := IsAll.reads I t r2
   exact ⟨_,.cons h1 h2⟩
end
def rEqD : R2 := fun x y H Q=>∃ d e,Is H d x /\ Is H e y /\ SeqAt.shaped d = true /\ SeqAt.shaped e = true /\ Q (.bl (PyData.eqv d e)) H
def rNeD : R2 := fun x y H Q=>∃ d e,Is H d x /\ Is H e y /\ SeqAt.shaped d = true /\ SeqAt.shaped e = true /\ Q (.bl (!PyData.eqv d e)) H
theorem iqX (hu : X.A.units + 64 < cLine) : OpR X (compareOp .Eq) rEqD := by
 intro pins s σ H x y v u Q I rx ry h
 obtain ⟨d,e,hx,hy,sx,sy,q⟩ := h
 obtain ⟨as,ra⟩ := hx.reads I rx
 obtain ⟨bs,rb⟩ := hy.reads I ry
 exact eq_dataH ra rb sx sy hu ⟨.bl _,H,I,rfl,q⟩
theorem hq6 (hu : X.A.units + 64 < cLine) : OpR X (compareOp .NotEq) rNeD := by
 intro pins s σ H x y v u Q I rx ry h
 obtain ⟨d,e,hx,hy,sx,sy,q⟩ := h
 obtain ⟨as,ra⟩ := hx.reads I rx
 obtain ⟨bs,rb⟩ := hy.reads I ry
 exact ne_dataH ra rb sx sy hu ⟨.bl _,H,I,rfl,q⟩
end
mutual
inductive IsT (H : Hp) : PyData -> V -> Prop
 | non : IsT H .none .non
 | bl (b : Bool) : IsT H (.bool b) (.bl b)
 | int (i : Int) : IsT H (.int i) (.int i)
 | str (x : Str) : IsT H (.str x) (.str x)
 | tup {p : Addr} {xs : List V} {ds : List PyData} : H p = some (.tup xs) -> IsTAll H ds xs -> IsT H (.tuple ds) (.ref p)
inductive IsTAll (H : Hp) : List PyData -> List V -> Prop
 | nil : IsTAll H [] []
 | cons {d : PyData} {x : V} {ds : List PyData} {xs : List V} : IsT H d x -> IsTAll H ds xs -> IsTAll H (d :: ds) (x :: xs)
end
def SameT (H H' : Hp) : Prop := ∀ b xs,H b = some (.tup xs) -> H' b = some (.tup xs)
theorem Same.toT {H H' : Hp} (h : Same H H') : SameT H H' := fun b xs e=>h b _ e
mutual
theorem IsT.mono {H H' : Hp} (sm : SameT H H') : ∀ {d : PyData} {x : V},IsT H d x -> IsT H' d x
 | _,_,.non=>.non
 | _,_,.bl b=>.bl b
 | _,_,.int i=>.int i
 | _,_,.str x=>.str x
 | _,_,.tup h r=>.tup (sm _ _ h) (IsTAll.mono sm r)
theorem IsTAll.mono {H H' : Hp} (sm : SameT H H') : ∀ {ds : List PyData} {xs : List V},IsTAll H ds xs -> IsTAll H' ds xs
 | _,_,.nil=>.nil
 | _,_,.cons h r=>.cons (IsT.mono sm h) (IsTAll.mono sm r)
end
mutual
theorem IsT.is {H : Hp} : ∀ {d : PyData} {x : V},IsT H d x -> Is H d x
 | _,_,.non=>.non
 | _,_,.bl b=>.bl b
 | _,_,.int i=>.int i
 | _,_,.str x=>.str x
 | _,_,.tup h r=>.tup h (IsTAll.is r)
theorem IsTAll.is {H : Hp} : ∀ {ds : List PyData} {xs : List V},IsTAll H ds xs -> IsAll H ds xs
 | _,_,.nil=>.nil
 | _,_,.cons h r=>.cons (IsT.is h) (IsTAll.is r)
end
section
variable {p : Addr} {fv : St} {te : TE} {Q : VK} {H1 : Hp}
inductive All2 (R : V -> V -> Hp -> Prop) (H : Hp) : List V -> List V -> Prop
 | nil : All2 R H [] []
 | cons {x y : V} {xs ys : List V} : R x y H -> All2 R H xs ys -> All2 R H (x :: xs) (y :: ys)
end
section
variable {X : Cx}
def rAllB (K : PySem.W.Frag) : List V -> Hp -> VK -> Prop := fun vs H Q=>∃ (p : Addr) (bs : List Bool),vs = [.ref p] /\ SqL K H p (bs.map V.bl) /\ Q (.bl (bs.all id)) H
def rAnyB (K : PySem.W.Frag) : List V -> Hp -> VK -> Prop := fun vs H Q=>∃ (p : Addr) (bs : List Bool),vs = [.ref p] /\ SqL K H p (bs.map V.bl) /\ Q (.bl (bs.any id)) H
theorem pqv {bs : List Bool} : ∀ {us : List Value},Vals (bs.map V.bl) us -> ∀ (i : Nat) (v : Value),us[i]? = some v -> ∃ b,bs[i]? = some b /\ v = .bool b := by
 induction bs with
 | nil=>intro us r i v h; rw [List.map_nil] at r; cases r; simp at h
 | cons b bs ih =>
  intro us r i v h
  rw [List.map_cons] at r
  cases r with
  | cons r1 r2 =>
   cases i with
   | zero=>simp at h; subst h; exact ⟨b,rfl,r1⟩
   | succ i =>
    obtain ⟨c,h1,h2⟩ := ih r2 i v (by simpa using h)
    exact ⟨c,by simpa using h1,h2⟩
theorem nqY (hc : X.calm = true) : CallR X (.builtin "all") (rAllB X.K) := by
 intro pins s σ H xs us Q I r h
 obtain ⟨p,bs,rfl,hq,q⟩ := h
 obtain ⟨u,rfl,ru⟩ := vals1 r
 cases ru
 obtain ⟨its,vs,pl,hl⟩ := I.list hq
 have hI := pl.isList
 have hlt : p < s.heap.objs.size := by obtain ⟨_,e,_⟩ := hI; exact Heap.lt_size e
 refine call_all_walk (wpAny_pyIter_list hI ?_)
 refine ⟨s.heap.objs.size,[s.heap.objs.size,p],[s.heap.objs.size],its.toArray.size,_,_,fun i=>(bs[i]?).getD true,rfl,Walks.list (A := X.A.in1) (I.ok.hd hc) _ p (Nat.ne_of_lt hlt) its.toArray,
  ⟨⟨_,Heap.get?_push_size _ rfl,rfl,rfl⟩,hI.push _⟩,fun i v s' Q' E' hP hQ=>?_,fun h' tk hk=>?_⟩
 ·obtain ⟨b,e,rfl⟩ := pqv vs i v (by simpa using hP)
  simp only [e,Option.getD_some] at hQ
  exact wpAny_truthy_bool hQ
 ·have hbl := vs.length
  rw [List.length_map] at hbl
  have e : ((List.range its.toArray.size).all fun i=>(bs[i]?).getD true) = bs.all id := by
   rw [List.size_toArray,<- hbl]; exact PyProof.Rows.LSm.range_all bs
  exact ⟨.bl _,H,I.kept (t' := tk) (PyProof.Rows.LSm.kept_iter hk),rfl,by rw [e]; exact q⟩
variable {K : PySem.W.Frag}
theorem iqi (h : X.K = K) (hc : X.calm = true) : CallR X (.builtin "all") (rAllB K) := by subst h; exact nqY hc
def rListU (K : PySem.W.Frag) : List V -> Hp -> VK -> Prop := fun xs H Q=>∃ p ys,xs = [.ref p] /\ (SqL K H p ys \/ SqT K H p ys) /\ ∀ l,H l = none -> Q (.ref l) (upd H l (.lst ys))
def rTupleU (K : PySem.W.Frag) : List V -> Hp -> VK -> Prop := fun xs H Q=>∃ p ys,xs = [.ref p] /\ ((SqL K H p ys /\ ∀ l,H l = none -> Q (.ref l) (upd H l (.tup ys))) \/ (SqT K H p ys /\ Q (.ref p) H))
theorem gqR {tg l : Expr} {tl : TE} (h : X.K = K) (hl : PE X l tl) : PI X tg l (iTup K tl) := by subst h; exact sqA hl
end
section
variable {H : Hp} {Q : VK} {K : PySem.W.Frag}
theorem qqC {x : V} {T : String} : (rIsiU [x,.ty T] H Q) = (∃ k,kindV x H = some k /\ T ∈ ["bool", "int", "str", "list", "tuple"] /\ Q (.bl (subT k T)) H) := rfl
theorem pqd : kindV .non H = some "NoneType" := rfl
theorem rqo {b : Bool} : kindV (.bl b) H = some "bool" := rfl
theorem pqM {i : Int} : kindV (.int i) H = some "int" := rfl
theorem pqu {x : Str} : kindV (.str x) H = some "str" := rfl
theorem hqk {p : Addr} {xs : List V} (h : H p = some (.lst xs)) : kindV (.ref p) H = some "list" := by simp only [kindV,h]
theorem hqv {p : Addr} {xs : List V} (h : H p = some (.tup xs)) : kindV (.ref p) H = some "tuple" := by simp only [kindV,h]
theorem oqt : ("bool" ∈ ["bool", "int", "str", "list", "tuple"]) = True := by simp
theorem pqm : ("int" ∈ ["bool", "int", "str", "list", "tuple"]) = True := by simp
theorem pqh : ("str" ∈ ["bool", "int", "str", "list", "tuple"]) = True := by simp
theorem oqL : ("list" ∈ ["bool", "int", "str", "list", "tuple"]) = True := by simp
theorem mq3 : ("tuple" ∈ ["bool", "int", "str", "list", "tuple"]) = True := by simp
theorem gqv : subT "NoneType" "bool" = false := by decide
theorem hqf : subT "NoneType" "int" = false := by decide
theorem hqd : subT "NoneType" "str" = false := by decide
theorem gqN : subT "NoneType" "list" = false := by decide
theorem fq3 : subT "NoneType" "tuple" = false := by decide
theorem jqC : subT "bool" "bool" = true := by decide
theorem kqN : subT "bool" "int" = true := by decide
theorem jq6 : subT "bool" "str" = false := by decide
theorem jqO : subT "bool" "list" = false := by decide
theorem iqO : subT "bool" "tuple" = false := by decide
theorem jq8 : subT "int" "bool" = false := by decide
theorem lqf : subT "int" "int" = true := by decide
theorem lqF : subT "int" "str" = false := by decide
theorem kqd : subT "int" "list" = false := by decide
theorem jqr : subT "int" "tuple" = false := by decide
theorem kq4 : subT "str" "bool" = false := by decide
theorem lqG : subT "str" "int" = false := by decide
theorem lql : subT "str" "str" = true := by decide
theorem jqW : subT "str" "list" = false := by decide
theorem jqy : subT "str" "tuple" = false := by decide
theorem jqK : subT "list" "bool" = false := by decide
theorem kqb : subT "list" "int" = false := by decide
theorem jq1 : subT "list" "str" = false := by decide
theorem jqU : subT "list" "list" = true := by decide
theorem iqF : subT "list" "tuple" = false := by decide
theorem iqJ : subT "tuple" "bool" = false := by decide
theorem jqs : subT "tuple" "int" = false := by decide
theorem jqV : subT "tuple" "str" = false := by decide
theorem iqC : subT "tuple" "list" = false := by decide
theorem iqx : subT "tuple" "tuple" = true := by decide
theorem rqG {n : Nat} {t : TGs} {v : V} {σ : St} {R : St -> Hp -> Prop} : (gTup K n t v σ H R) = (∃ a xs,v = .ref a /\ SqT K H a xs /\ xs.length = n /\ t xs σ H R) := rfl
theorem pqZ {t : TG} {u : TGs} {vs : List V} {σ : St} {R : St -> Hp -> Prop} : (gCons t u vs σ H R) = (∃ v r,vs = v :: r /\ t v σ H fun σ' H' => u r σ' H' R) := rfl
theorem qqN {vs : List V} {σ : St} {R : St -> Hp -> Prop} : (gNil vs σ H R) = (vs = [] /\ R σ H) := rfl
theorem rqS {to ti : TE} {t : TSet} {v : V} {σ : St} {R : St -> Hp -> Prop} : (gSub to ti t v σ H R) = (to σ H fun o H1=>ti σ H1 fun i H2=>t o i v H2 fun H3=>R σ H3) := rfl
theorem qqD {p : Addr} {k : Int} {v : V} {R : Hp -> Prop} : rSetL (.ref p) (.int k) v H R ↔ ∃ xs j,H p = some (.lst xs) /\ ixN xs.length k = some j /\ R (upd H p (.lst (xs.set j v))) := by
 constructor
 ·rintro ⟨p',xs,k',j,h1,h2,h3⟩; cases h1; cases h2; exact ⟨xs,j,h3⟩
 ·rintro ⟨xs,j,h⟩; exact ⟨p,xs,k,j,rfl,rfl,h⟩
end
section
variable {X : Cx} {K : PySem.W.Frag}
theorem gqL {es : List Expr} {k : Nat} {t : TGs} {n : Nat} {pos : Pos} (h : X.K = K) (hc : X.calm = true) (hg : PGs X es t)
  (hn : (assignEach es X.env).length = n := by rfl) (hst : (assignEach es X.env).findIdx? (·.1) = none := by rfl) : PG X (.Tuple es k pos) (gTup K n t) := by
 subst h; exact qqi hc hg hn hst
end
def SameBut (p : Addr) (H H' : Hp) : Prop := ∀ b o,b ≠ p -> H b = some o -> H' b = some o
theorem SameBut.trans {p : Addr} {H H' H'' : Hp} (h : SameBut p H H') (h' : SameBut p H' H'') : SameBut p H H'' := fun b o n e=>h' b o n (h b o n e)
theorem Same.but {p : Addr} {H H' : Hp} (h : Same H H') : SameBut p H H' := fun b o _ e=>h b o e
theorem cq6 {p : Addr} {H : Hp} {o : HO} : SameBut p H (upd H p o) := fun b u n e=>by rw [aqo n]; exact e
theorem SameBut.same {p : Addr} {H H' : Hp} (h : SameBut p H H') (hp : H p = none) : Same H H' := fun b o e=>h b o (aqm e hp) e
section
variable {p : Addr} {fv : St} {te : TE} {Q : VK} {H1 : Hp} {K : PySem.W.Frag}
theorem Same.tup {H H' : Hp} {a : Addr} {xs : List V} (e : Same H H') (h : SqT K H a xs) : SqT K H' a xs := by
 rcases h with (h | ⟨o,h⟩) | h
 ·exact .inl (.inl (e _ _ h))
 ·exact .inl (.inr ⟨o,e _ _ h⟩)
 ·exact .inr h
theorem mqJ {a : Addr} {xs zs : List V} (hxs : SqL K H1 a xs) (hlen : xs.length <= sizeLine) (hp : H1 p = none) (hz : zs.length = xs.length)
  (he : ∀ (i : Nat) (x z : V),xs[i]? = some x -> zs[i]? = some z -> ∀ (H' : Hp) (T : VK),Same H1 H' -> (∀ H'',Same H' H'' -> T z H'') -> te (some x :: fv) H' T)
  (hQ : ∀ H',Same H1 H' -> H' p = some (.lst zs) -> Q (.ref p) H') : CompI (Itl K a) p fv tYes te Q H1 := by
 refine ⟨fun i m ys H2=>m = xs.length - i /\ i <= xs.length /\ ys = zs.take i /\ H2 p = some (.lst ys) /\ Same H1 H2,⟨xs.length,by simp,Nat.zero_le _,by simp,aqj,fun b o e=>by rw [aqo (aqm e hp)]; exact e⟩,?_⟩
 rintro i m ys H2 ⟨rfl,hi,rfl,hp2,sm⟩
 refine ⟨hp2,?_⟩
 have q := sm.seq hxs
 by_cases hlt : i < xs.length
 ·refine .inr ⟨⟨xs,xs[i],q,by simp [hlt]⟩,?_,fun x H3 y=>?_⟩
  ·rw [List.length_take]; omega
  ·obtain ⟨rfl,y⟩ := y
   have hc := y xs q
   have hzi : zs[i]? = some zs[i] := List.getElem?_eq_getElem (by omega)
   unfold tYes
   dsimp only
   rw [if_pos rfl]
   refine he i x _ hc hzi _ _ sm fun H5 s5=>⟨s5 _ _ hp2,xs.length - (i + 1),by omega,rfl,hlt,?_,aqj,fun b o e=>?_⟩
   ·rw [List.take_add_one,hzi]; rfl
   ·rw [aqo (aqm e hp)]; exact s5 _ _ (sm _ _ e)
 ·have e : i = xs.length := by omega
  subst e
  refine .inl ⟨⟨xs,q,Nat.le_refl _⟩,hQ H2 sm ?_⟩
  rw [hp2,<- hz,List.take_length]
variable {σ : St} {H : Hp} {tl : TE} {tt : TT} {fr : List Nat} {g : TG} {tb : TS} {D : Ends}
theorem pqi : (tComp (iTup K tl) fr tt te σ H Q) = (tl σ H fun x H1=>∃ a,x = .ref a /\ (∃ xs,SqT K H1 a xs) /\ ∀ p,H1 p = none -> CompI (Itt K a) p (frV σ fr) tt te Q H1) := rfl
theorem qqZ : (tFor (iTup K te) g tb D σ H) = (te σ H fun x H1=>∃ a,x = .ref a /\ (∃ xs,SqT K H1 a xs) /\ LoopI (Itt K a) g tb D σ H1) := rfl
theorem mqj {a : Addr} {xs : List V} (Pv : Nat -> St -> Hp -> Prop) (h0 : Pv 0 σ H) (hl : ∀ i σ H,i <= xs.length -> Pv i σ H -> SqT K H a xs)
  (hs : ∀ i x σ H,xs[i]? = some x -> Pv i σ H -> g x σ H fun σ2 H2=>tb { D with nx := Pv (i + 1),ct := Pv (i + 1),bk := D.nx } σ2 H2) (hd : ∀ σ H,Pv xs.length σ H -> D.nx σ H) : LoopI (Itt K a) g tb D σ H := rqU Pv h0 hl hs hd
theorem lqw {a : Addr} : rAllB K [.ref a] H Q ↔ ∃ bs : List Bool,SqL K H a (bs.map V.bl) /\ Q (.bl (bs.all id)) H := by
 constructor
 ·rintro ⟨p,bs,h1,h2⟩; cases h1; exact ⟨bs,h2⟩
 ·rintro ⟨bs,h⟩; exact ⟨a,bs,rfl,h⟩
theorem rqF {a : Addr} : rAnyB K [.ref a] H Q ↔ ∃ bs : List Bool,SqL K H a (bs.map V.bl) /\ Q (.bl (bs.any id)) H := by
 constructor
 ·rintro ⟨p,bs,h1,h2⟩; cases h1; exact ⟨bs,h2⟩
 ·rintro ⟨bs,h⟩; exact ⟨a,bs,rfl,h⟩
theorem sqL {a : Addr} : rListU K [.ref a] H Q ↔ ∃ ys,(SqL K H a ys \/ SqT K H a ys) /\ ∀ l,H l = none -> Q (.ref l) (upd H l (.lst ys)) := by
 constructor
 ·rintro ⟨p,bs,h1,h2⟩; cases h1; exact ⟨bs,h2⟩
 ·rintro ⟨bs,h⟩; exact ⟨a,bs,rfl,h⟩
theorem squ {a : Addr} : rTupleU K [.ref a] H Q ↔ ∃ ys,(SqL K H a ys /\ ∀ l,H l = none -> Q (.ref l) (upd H l (.tup ys))) \/ (SqT K H a ys /\ Q (.ref a) H) := by
 constructor
 ·rintro ⟨p,bs,h1,h2⟩; cases h1; exact ⟨bs,h2⟩
 ·rintro ⟨bs,h⟩; exact ⟨a,bs,rfl,h⟩
theorem qqq {a : Addr} {lo hi : Option Int} : rSlT K (.ref a) lo hi H Q ↔ ∃ xs,SqT K H a xs /\ ¬ (HT.sIx xs.length 0 lo = 0 /\ HT.sIx xs.length xs.length hi = xs.length) /\ ∀ p,H p = none -> Q (.ref p) (upd H p (.tup (cutV xs lo hi))) := by
 constructor
 ·rintro ⟨p,bs,h1,h2⟩; cases h1; exact ⟨bs,h2⟩
 ·rintro ⟨bs,h⟩; exact ⟨a,bs,rfl,h⟩
end
def tCut (t u : TS) : TS := fun D σ H=>∃ P : St -> Hp -> Prop,t { D with nx := P } σ H /\ ∀ σ' H',P σ' H' -> u D σ' H'
section
variable {X : Cx} {st : Stmt} {rest : List Stmt} {t u : TS}
theorem aqX (h1 : PS X st t) (h2 : PSs X rest u) : PSs X (st :: rest) (tCut t u) := by
 intro pins s σ H D I h
 obtain ⟨P,h,hu⟩ := h
 refine wpAny_execs_cons (thn (h1 pins s σ H { D with nx := P } I h) fun f s1 q=>?_)
 cases f with
 | next =>
  obtain ⟨σ',H',I',q⟩ := q
  exact h2 pins s1 σ' H' D I' (hu _ _ q)
 | ret v=>exact q
 | brk=>exact q
 | cont=>exact q
def Later (u : TS) (D : Ends) (σ : St) (H : Hp) : Prop := u D σ H
theorem oq7 {D : Ends} {x : Option V} {σ : St} {H : Hp} : (Later u D (x :: σ) H) = (u D (x :: σ) H) := rfl
theorem tql {D : Ends} {σ : St} {H : Hp} : (tCut t u D σ H) = (∃ P : St -> Hp -> Prop,t { D with nx := P } σ H /\ ∀ σ' H',P σ' H' -> Later u D σ' H') := rfl
end
theorem aqR {H : Hp} {p : Addr} {o : HO} (hp : H p = none) : Same H (upd H p o) := fun b u e=>by rw [aqo (aqm e hp)]; exact e
def tTupS (t : TA) : TE := fun σ H Q=>t σ H fun xs H1=>xs.length <= sizeLine /\ ∀ p H',H1 p = none -> Same H1 H' -> H' p = some (.tup xs) -> Q (.ref p) H'
def tLstS (t : TA) : TE := fun σ H Q=>t σ H fun xs H1=>xs.length <= sizeLine /\ ∀ p H',H1 p = none -> Same H1 H' -> H' p = some (.lst xs) -> Q (.ref p) H'
section
variable {X : Cx} {es : List Expr} {t : TA} {pos : Pos} {K : PySem.W.Frag}
theorem aq8 {x1} (h : PA X es t) : PE X (.Tuple es x1 pos) (tTupS t) := by
 intro pins s σ H Q I hq
 refine wpAny_Tuple_spliced (thn (h pos pins s σ H _ I hq) fun us s1 ⟨xs,H1,I1,r,z,q⟩=>⟨by rw [<- r.length]; exact z,?_⟩)
 have hf : H1 s1.heap.objs.size = none := I1.hok.fresh (Nat.le_refl _)
 refine ⟨.ref s1.heap.objs.size,upd H1 s1.heap.objs.size (.tup xs),I1.laid (t' := s1.toks) (fun b u e=>Heap.get?_push_of_some _ e) (Nat.le_refl _) ?_,rfl,q _ _ hf (aqR hf) aqj⟩
 exact ⟨z,us,r,⟨_,Heap.get?_push_size _ rfl,rfl,_,rfl⟩⟩
theorem aqL (h : PA X es t) : PE X (.List es pos) (tLstS t) := by
 intro pins s σ H Q I hq
 refine wpAny_List_spliced (thn (h pos pins s σ H _ I hq) fun us s1 ⟨xs,H1,I1,r,z,q⟩=>⟨by rw [<- r.length]; exact z,?_⟩)
 have hf : H1 s1.heap.objs.size = none := I1.hok.fresh (Nat.le_refl _)
 refine ⟨.ref s1.heap.objs.size,upd H1 s1.heap.objs.size (.lst xs),I1.laid (t' := s1.toks) (fun b u e=>Heap.get?_push_of_some _ e) (Nat.le_refl _) ?_,rfl,q _ _ hf (aqR hf) aqj⟩
 exact ⟨z,us,0,r,Heap.get?_push_size _ rfl⟩
def rAddS (K : PySem.W.Frag) : R2 := fun x y H Q=>match x,y with
 | .int i,.int j=>Q (.int (i + j)) H
 | .str i,.str j=>i.length + j.length <= sizeLine /\ Q (.str (i ++ j)) H
 | .ref a,.ref b=>(∃ xs zs,H a = some (.lst xs) /\ H b = some (.lst zs) /\ xs.length + zs.length <= sizeLine /\ ∀ p H',H p = none -> Same H H' -> H' p = some (.lst (xs ++ zs)) -> Q (.ref p) H') \/
   (∃ xs ys,H a = some (.tup xs) /\ H b = some (.tup ys) /\ xs.length + ys.length <= sizeLine /\ ∀ p H',Same H H' -> H' p = some (.tup (xs ++ ys)) -> Q (.ref p) H')
 | _,_=>False
theorem aqz : OpR X (binaryOp .Add) (rAddS K) := by
 intro pins s σ H x y v u Q I rx ry h
 refine nqo pins s σ H x y v u Q I rx ry ?_
 cases x with
 | int i =>
  cases y with
  | int j=>exact h
  | _=>exact h.elim
 | str i =>
  cases y with
  | str j=>exact h
  | _=>exact h.elim
 | ref a =>
  cases y with
  | ref b =>
   rcases h with ⟨xs,zs,h1,h2,h3,h4⟩ | h
   ·exact .inl ⟨xs,zs,h1,h2,h3,fun p hp=>h4 p _ hp (aqR hp) aqj⟩
   ·exact .inr h
  | _=>exact h.elim
 | _=>exact h.elim
def rListS (K : PySem.W.Frag) : List V -> Hp -> VK -> Prop := fun xs H Q=>∃ p ys,xs = [.ref p] /\ (SqL K H p ys \/ SqT K H p ys) /\ ∀ l H',H l = none -> Same H H' -> H' l = some (.lst ys) -> Q (.ref l) H'
def rTupleS (K : PySem.W.Frag) : List V -> Hp -> VK -> Prop := fun xs H Q=>∃ p ys,xs = [.ref p] /\ (SqL K H p ys \/ H p = some (.tup ys)) /\ ∀ l H',Same H H' -> H' l = some (.tup ys) -> Q (.ref l) H'
theorem cqQ (h : X.K = K) : CallR X (.type "list") (rListS K) := by
 subst h
 intro pins s σ H xs us Q I r h
 obtain ⟨p,ys,h1,h2,h3⟩ := h
 exact kqF pins s σ H xs us Q I r ⟨p,ys,h1,h2,fun l hl=>h3 l _ hl (aqR hl) aqj⟩
theorem cq7 (h : X.K = K) : CallR X (.type "tuple") (rTupleS K) := by
 subst h
 intro pins s σ H xs us Q I r h
 obtain ⟨p,ys,h1,h2,h3⟩ := h
 rcases h2 with h2 | h2
 ·exact fqF pins s σ H xs us Q I r ⟨p,ys,h1,.inl ⟨h2,fun l hl=>h3 l _ (aqR hl) aqj⟩⟩
 ·exact fqF pins s σ H xs us Q I r ⟨p,ys,h1,.inr ⟨SqT.of h2,h3 p H (Same.refl _) h2⟩⟩
def rSlS2 (K : PySem.W.Frag) : V -> Option Int -> Option Int -> Hp -> VK -> Prop := fun x lo hi H Q=>∃ a xs,x = .ref a /\ SqT K H a xs /\
 ¬ (HT.sIx xs.length 0 lo = 0 /\ HT.sIx xs.length xs.length hi = xs.length) /\ ∀ p H',H p = none -> Same H H' -> H' p = some (.tup (cutV xs lo hi)) -> Q (.ref p) H'
end
section
variable {σ : St} {H : Hp} {Q : VK} {K : PySem.W.Frag} {aa : TA}
theorem qqV : (tTupS aa σ H Q) = (aa σ H fun xs H1=>xs.length <= sizeLine /\ ∀ p H',H1 p = none -> Same H1 H' -> H' p = some (.tup xs) -> Q (.ref p) H') := rfl
theorem rqN : (tLstS aa σ H Q) = (aa σ H fun xs H1=>xs.length <= sizeLine /\ ∀ p H',H1 p = none -> Same H1 H' -> H' p = some (.lst xs) -> Q (.ref p) H') := rfl
theorem nqN {i j : Int} : (rAddS K (.int i) (.int j) H Q) = (Q (.int (i + j)) H) := rfl
theorem dqP {i j : Str} : (rAddS K (.str i) (.str j) H Q) = (i.length + j.length <= sizeLine /\ Q (.str (i ++ j)) H) := rfl
theorem qqH {a : Addr} : rListS K [.ref a] H Q ↔ ∃ ys,(SqL K H a ys \/ SqT K H a ys) /\ ∀ l H',H l = none -> Same H H' -> H' l = some (.lst ys) -> Q (.ref l) H' := by
 constructor
 ·rintro ⟨p,bs,h1,h2⟩; cases h1; exact ⟨bs,h2⟩
 ·rintro ⟨bs,h⟩; exact ⟨a,bs,rfl,h⟩
theorem rqs {a : Addr} : rTupleS K [.ref a] H Q ↔ ∃ ys,(SqL K H a ys \/ H a = some (.tup ys)) /\ ∀ l H',Same H H' -> H' l = some (.tup ys) -> Q (.ref l) H' := by
 constructor
 ·rintro ⟨p,bs,h1,h2⟩; cases h1; exact ⟨bs,h2⟩
 ·rintro ⟨bs,h⟩; exact ⟨a,bs,rfl,h⟩
theorem qq0 {a : Addr} {lo hi : Option Int} : rSlS2 K (.ref a) lo hi H Q ↔ ∃ xs,SqT K H a xs /\ ¬ (HT.sIx xs.length 0 lo = 0 /\ HT.sIx xs.length xs.length hi = xs.length) /\ ∀ p H',H p = none -> Same H H' -> H' p = some (.tup (cutV xs lo hi)) -> Q (.ref p) H' := by
 constructor
 ·rintro ⟨p,bs,h1,h2⟩; cases h1; exact ⟨bs,h2⟩
 ·rintro ⟨bs,h⟩; exact ⟨a,bs,rfl,h⟩
end
def rSlLS (K : PySem.W.Frag) : V -> Option Int -> Option Int -> Hp -> VK -> Prop := fun x lo hi H Q=>∃ a xs,x = .ref a /\ SqL K H a xs /\ ∀ p H',H p = none -> Same H H' -> H' p = some (.lst (cutV xs lo hi)) -> Q (.ref p) H'
theorem jqz {X : Cx} {K : PySem.W.Frag} (h : X.K = K) : SlR X (rSlLS K) := by
 subst h
 intro pins s σ H x v vl vu lo hi sl Q I rx hs pl pu h
 obtain ⟨a,xs,h1,h2,h3⟩ := h
 exact oqb pins s σ H x v vl vu lo hi sl Q I rx hs pl pu ⟨a,xs,h1,h2,fun p hp=>h3 p _ hp (aqR hp) aqj⟩
theorem pqt {K : PySem.W.Frag} {H : Hp} {Q : VK} {a : Addr} {lo hi : Option Int} : rSlLS K (.ref a) lo hi H Q ↔ ∃ xs,SqL K H a xs /\ ∀ p H',H p = none -> Same H H' -> H' p = some (.lst (cutV xs lo hi)) -> Q (.ref p) H' := by
 constructor
 ·rintro ⟨p,bs,h1,h2⟩; cases h1; exact ⟨bs,h2⟩
 ·rintro ⟨bs,h⟩; exact ⟨a,bs,rfl,h⟩
def rIsB (neg : Bool) : R2 := fun x y H Q=>match x,y with
 | .bl b,.bl c=>Q (.bl (if neg then !decide (b = c) else decide (b = c))) H
 | _,_=>False
theorem tqB {b c : Bool} {H : Hp} {Q : VK} : (rIsB false (.bl b) (.bl c) H Q) = (Q (.bl (decide (b = c))) H) := rfl
end L2
namespace Wm
open PySem L2
def isSg (c : Nat) : Bool := decide (32 <= c) && decide (c <= 126) && !decide (c = 37)
def SG : List Nat := (List.range 127).filter isSg
def hexd (n : Nat) : Nat := if n < 10 then 48 + n else 87 + n
def fig (a : Nat) : Option Nat := if 48 <= a /\ a <= 57 then some (a - 48) else if 97 <= a /\ a <= 102 then some (a - 87) else if 65 <= a /\ a <= 70 then some (a - 55) else none
abbrev one (c : Nat) : V := .str ⟨#[c]⟩
theorem pq6 {c : Nat} : c ∈ SG ↔ isSg c = true := by
 unfold SG
 rw [List.mem_filter,List.mem_range]
 constructor
 ·exact fun h=>h.2
 ·intro h
  refine ⟨?_,h⟩
  simp only [isSg,Bool.and_eq_true,decide_eq_true_eq] at h
  omega
theorem nqk {c : Nat} (h : isSg c = true) : 32 <= c /\ c <= 126 /\ c ≠ 37 := by
 simp only [isSg,Bool.and_eq_true,decide_eq_true_eq,Bool.not_eq_true',decide_eq_false_iff_not] at h
 omega
theorem kqY (l : List Nat) (a : Nat) : ∀ k,((List.range k).map fun j=>a + j).filterMap (fun i=>l[i]?) = (l.drop a).take k
 | 0=>by simp
 | k + 1=>by
  rw [List.range_succ,List.map_append,List.filterMap_append,kqY l a k,List.take_add_one,List.getElem?_drop]
  simp only [List.map_cons,List.map_nil]
  cases e : l[a + k]? with
  | none=>simp [e]
  | some c=>simp [e]
def clipI (n : Nat) (v : Int) : Nat := (max 0 (min (if v < 0 then v + n else v) n)).toNat
theorem oq9 (a b : Nat) : sliceRange (a : Int) (b : Int) 1 = (List.range (b - a)).map fun j=>a + j := by
 unfold sliceRange
 have h1 : (1 : Int) > 0 := by decide
 simp only [h1,if_true,Int.one_mul,Int.ediv_one]
 have e : (if (a : Int) < (b : Int) then (b : Int) - (a : Int) + 1 - 1 else 0).toNat = b - a := by split <;> omega
 rw [e]
 apply List.map_congr_left
 intro j _
 omega
theorem lqM (lo hi : Option Int) (n : Nat) : Builtin.Str.strSliceIndices lo hi 1 n = (List.range ((hi.elim n (clipI n)) - (lo.elim 0 (clipI n)))).map fun j=>(lo.elim 0 (clipI n)) + j := by
 unfold Builtin.Str.strSliceIndices
 have h1 : (1 : Int) > 0 := by decide
 simp only [h1,if_true]
 rw [<- oq9]
 congr 1
 ·cases lo with
  | none=>rfl
  | some v=>simp only [Option.elim_some,clipI]; omega
 ·cases hi with
  | none=>rfl
  | some v=>simp only [Option.elim_some,clipI]; omega
theorem kqh (l : List Nat) (lo hi : Option Int) : Txt.slice (⟨l.toArray⟩ : Str) lo hi = ⟨((l.drop (lo.elim 0 (clipI l.length))).take ((hi.elim l.length (clipI l.length)) - (lo.elim 0 (clipI l.length)))).toArray⟩ := by
 have hl : (⟨l.toArray⟩ : Str).length = l.length := by simp [Str.length]
 have hb : hi.elim l.length (clipI l.length) <= l.length := by
  cases hi with
  | none=>exact Nat.le_refl _
  | some v=>simp only [Option.elim_some,clipI]; omega
 have hb' : lo.elim 0 (clipI l.length) <= l.length := by
  cases lo with
  | none=>exact Nat.zero_le _
  | some v=>simp only [Option.elim_some,clipI]; omega
 have ef : (fun i : Nat=>(⟨l.toArray⟩ : Str).cps[i]?) = fun i=>l[i]? := by funext i; simp
 unfold Txt.slice
 rw [hl,lqM,ef]
 split
 ·rename_i h
  simp only [List.length_map,List.length_range,beq_self_eq_true,Bool.true_and,beq_iff_eq] at h
  have e1 : lo.elim 0 (clipI l.length) = 0 := by omega
  have e2 : hi.elim l.length (clipI l.length) = l.length := by omega
  rw [e1,e2]
  simp
 ·rw [kqY l (lo.elim 0 (clipI l.length)) ((hi.elim l.length (clipI l.length)) - (lo.elim 0 (clipI l.length)))]
theorem lq1 (n k : Nat) : clipI n (k : Int) = min k n := by unfold clipI; split <;> omega
theorem mq7 (l : List Nat) (k : Nat) : Txt.slice (⟨l.toArray⟩ : Str) (some (k : Int)) none = ⟨(l.drop k).toArray⟩ := by
 rw [kqh]
 simp only [Option.elim_some,Option.elim_none,lq1]
 by_cases h : k <= l.length
 ·rw [Nat.min_eq_left h,List.take_of_length_le (by simp)]
 ·rw [Nat.min_eq_right (by omega),List.drop_eq_nil_of_le (Nat.le_refl _),List.drop_eq_nil_of_le (by omega)]
  simp
theorem kqm (l : List Nat) (i j : Nat) : Txt.slice (⟨l.toArray⟩ : Str) (some (i : Int)) (some (j : Int)) = ⟨((l.drop i).take (j - i)).toArray⟩ := by
 rw [kqh]
 simp only [Option.elim_some,lq1]
 by_cases h : i <= l.length
 ·rw [Nat.min_eq_left h]
  by_cases h2 : j <= l.length
  ·rw [Nat.min_eq_left h2]
  ·rw [Nat.min_eq_right (by omega : l.length <= j),List.take_of_length_le (by simp),List.take_of_length_le (by simp; omega)]
 ·rw [Nat.min_eq_right (by omega : l.length <= i),List.drop_eq_nil_of_le (Nat.le_refl _),List.drop_eq_nil_of_le (by omega)]
  simp
theorem sqJ : Str.ofString "" = ⟨([] : List Nat).toArray⟩ := by decide +kernel
theorem cq3 (l m : List Nat) : ((⟨l.toArray⟩ : Str) ++ (⟨m.toArray⟩ : Str)) = ⟨(l ++ m).toArray⟩ := by
 show Str.mk (l.toArray ++ m.toArray) = _
 simp
theorem bq0 {l m : List Nat} : ((⟨l.toArray⟩ : Str) = ⟨m.toArray⟩) ↔ l = m := by
 constructor
 ·intro h; injection h with h; injection h
 ·rintro rfl; rfl
theorem cqy (l : List Nat) : (⟨l.toArray⟩ : Str).length = l.length := by simp [Str.length]
theorem pqk : Str.ofString "~" = ⟨[126].toArray⟩ := by decide +kernel
theorem rqO (l : List Nat) : Txt.slice (⟨l.toArray⟩ : Str) (some 1) none = ⟨(l.drop 1).toArray⟩ := mq7 l 1
theorem nqy (l : List Nat) (m k : Int) (h0 : 0 < k) (h : k <= l.length) : ∃ a,a ∈ l /\ atI l (m % k) = some a := by
 have h1 := Int.emod_nonneg m (show k ≠ 0 by omega)
 have h2 := Int.emod_lt_of_pos m h0
 have h3 : (m % k).toNat < l.length := by omega
 refine ⟨l[(m % k).toNat],List.getElem_mem _,?_⟩
 have := aqi (xs := l) (j := (m % k).toNat) (v := l[(m % k).toNat]) (by simp [h3])
 rw [Int.toNat_of_nonneg h1] at this
 exact this
def isPl (c : Nat) : Bool := decide (48 <= c /\ c <= 57) || decide (65 <= c /\ c <= 90) || decide (97 <= c /\ c <= 122) || decide (c = 45) || decide (c = 46) || decide (c = 95)
def wr1 (c : Nat) : List Nat := if isPl c then [c] else [126,hexd (c / 16),hexd (c % 16)]
def wr (l : List Nat) : List Nat := l.flatMap wr1
def sgO (a b : Nat) : Option Nat := match fig a,fig b with
 | some h,some l=>if isSg (h * 16 + l) then some (h * 16 + l) else none
 | _,_=>none
theorem qqT {ns : List Int} {k : Nat} (h : k < ns.length) : atI (ns.map V.int) (k : Int) = some (.int (ns.getD k 0)) := by
 refine aqi ?_
 rw [List.getElem?_map,List.getElem?_eq_getElem h,List.getD_eq_getElem?_getD,List.getElem?_eq_getElem h]
 rfl
theorem aqq {n : Nat} (h : n <= 100000) : n <= sizeLine := Nat.le_trans h (by decide)
theorem rqp (f : Nat -> Nat) (l : List Nat) : (l.toArray).map f = (l.map f).toArray := by simp
theorem qq5 (l : List Nat) : (⟨l.toArray⟩ : Str).cps.toList = l := rfl
theorem qqt (xs : List V) (m k : Int) (h0 : 0 < k) (h : k <= xs.length) : ∃ a,a ∈ xs /\ atI xs (m % k) = some a := by
 have h1 := Int.emod_nonneg m (show k ≠ 0 by omega)
 have h2 := Int.emod_lt_of_pos m h0
 have h3 : (m % k).toNat < xs.length := by omega
 refine ⟨xs[(m % k).toNat],List.getElem_mem _,?_⟩
 have := aqi (xs := xs) (j := (m % k).toNat) (v := xs[(m % k).toNat]) (by simp [h3])
 rw [Int.toNat_of_nonneg h1] at this
 exact this
def hit (a b c : Nat) : Bool := decide ([hexd (c / 16),hexd (c % 16)] = [PyProof.Rows.lo1 a,PyProof.Rows.lo1 b])
mutual
def smallD : PyData -> Bool
 | .str x=>decide (x.length <= 100000)
 | .list xs=>decide (xs.length <= 100000) && smallAll xs
 | .tuple xs=>decide (xs.length <= 100000) && smallAll xs
 | .dict _=>false
 | .none=>true
 | .bool _=>true
 | .int _=>true
def smallAll : List PyData -> Bool
 | [] => true
 | d :: ds=>smallD d && smallAll ds
end
theorem gq7 : ∀ {ds : List PyData} {d : PyData},smallAll ds = true -> d ∈ ds -> smallD d = true
 | e :: ds,d,h,hm=>by
  simp only [smallAll,Bool.and_eq_true] at h
  rcases List.mem_cons.mp hm with rfl | hm
  ·exact h.1
  ·exact gq7 h.2 hm
theorem hqV : ∀ {ds : List PyData},(∀ d ∈ ds,smallD d = true) -> smallAll ds = true
 | [],_=>rfl
 | d :: ds,h=>by
  simp only [smallAll,Bool.and_eq_true]
  exact ⟨h d List.mem_cons_self,hqV fun e he=>h e (List.mem_cons_of_mem _ he)⟩
theorem eqy {x : Str} (h : smallD (.str x) = true) : x.length <= 100000 := by simpa [smallD] using h
theorem kq6 {ds : List PyData} (h : ds.length <= 100000) (h2 : smallAll ds = true) : smallD (.list ds) = true := by simp [smallD,h,h2]
def isLet (c : Nat) : Bool := decide (65 <= c /\ c <= 90) || decide (97 <= c /\ c <= 122)
def isAln (c : Nat) : Bool := isLet c || decide (48 <= c /\ c <= 57)
theorem sqz : (Str.ofString " !\"#$&'()*+,-./0123456789:;<=>?@ABCDEFGHIJKLMNOPQRSTUVWXYZ[\\]^_`abcdefghijklmnopqrstuvwxyz{|}~").cps.toList = SG := by decide +kernel
theorem sqE (c : Nat) : (decide (c ∈ (Str.ofString " !\"#$&'()*+,-./0123456789:;<=>?@ABCDEFGHIJKLMNOPQRSTUVWXYZ[\\]^_`abcdefghijklmnopqrstuvwxyz{|}~").cps.toList)) = isSg c := by
 rw [sqz,Bool.eq_iff_iff,decide_eq_true_eq,pq6]
def tx : PyData -> Bool
 | .str x=>x.cps.toList.all isSg
 | _=>false
def ftx : PyData -> Bool
 | .str x=>x.cps.toList.all isSg && decide (0 < x.length)
 | _=>false
abbrev st (l : List Nat) : PyData := .str ⟨l.toArray⟩
def oD : Option (List Nat) -> PyData
 | none=>.none
 | some l=>st l
def iD : Option Int -> PyData
 | none=>.none
 | some i=>.int i
def qD : Option (List (List Nat × Option (List Nat))) -> PyData
 | none=>.none
 | some ps=>.tuple (ps.map fun p=>.tuple [st p.1,oD p.2])
structure Ad where
 scheme : List Nat
 house : Option (List Nat)
 door : Option Int
 rooted : Bool
 steps : List (List Nat)
 ends : Bool
 quest : Option (List (List Nat × Option (List Nat)))
 mark : Option (List Nat)
def Ad.way (x : Ad) : PyData := .tuple [.bool x.rooted,.tuple (x.steps.map st),.bool x.ends]
def Ad.data (x : Ad) : PyData := .tuple [st x.scheme,oD x.house,iD x.door,x.way,qD x.quest,oD x.mark]
def Tx (n : Nat) (l : List Nat) : Prop := l.length <= n /\ ∀ c ∈ l,isSg c = true
structure Ad.Ok (x : Ad) : Prop where
 sch : x.scheme.length <= 8 /\ (∀ c ∈ x.scheme,isAln c = true) /\ ∀ c ∈ x.scheme.take 1,isLet c = true
 hou : ∀ l,x.house = some l -> 0 < l.length /\ Tx 60 l
 doo : ∀ i,x.door = some i -> (0 <= i /\ i <= 65535) /\ x.house ≠ none
 stp : x.steps.length <= 50 /\ ∀ l ∈ x.steps,0 < l.length /\ Tx 60 l
 roo : x.scheme ≠ [] \/ x.house ≠ none -> x.rooted = true
 end_ : x.steps = [] -> x.ends = x.rooted
 que : ∀ ps,x.quest = some ps -> ps.length <= 20 /\ ∀ p ∈ ps,(0 < p.1.length /\ Tx 6 p.1) /\ ∀ v,p.2 = some v -> Tx 6 v
 mar : ∀ l,x.mark = some l -> Tx 60 l
theorem nqp (l : List Nat) : (⟨l.toArray⟩ : Str).length = l.length := cqy l
theorem mqw : ∀ {ss : List (List Nat)},(∀ l ∈ ss,∀ c ∈ l,isSg c = true) -> PyData.canLayAll0 (ss.map st) = true /\ PyData.depthAll (ss.map st) = 0
 | [],_=>⟨rfl,rfl⟩
 | l :: r,h=>by
  obtain ⟨h1,h2⟩ := mqw (ss := r) fun l' hl' => h l' (List.mem_cons_of_mem _ hl')
  have hc : PyData.strOk ⟨l.toArray⟩ = true := by
   simp only [PyData.strOk,List.all_toArray,List.all_eq_true,decide_eq_true_eq]
   intro c hc
   have := nqk (h l List.mem_cons_self c hc)
   omega
  refine ⟨?_,?_⟩
  ·simp only [List.map_cons,PyData.canLayAll0,PyData.canLay0,hc,h1]; rfl
  ·simp only [List.map_cons,PyData.depthAll,PyData.depth,h2]; rfl
theorem eqE {ss : List (List Nat)} (h : ∀ l ∈ ss,∀ c ∈ l,isSg c = true) : SeqAt.shaped (.tuple (ss.map st)) = true := by
 obtain ⟨h1,h2⟩ := mqw h
 unfold SeqAt.shaped
 simp only [PyData.canLay0,PyData.depth,h1,h2]
 decide
theorem nqq {l : List Nat} : ((⟨l.toArray⟩ : Str) = ⟨#[]⟩) ↔ l = [] := bq0 (m := [])
def Bad (f : PyData -> Bool) (H : Hp) (v : V) : Prop := ∃ d,Is H d v /\ smallD d = true /\ f d = false
def Bads (f : PyData -> Bool) (H : Hp) (vs : List V) : Prop := ∀ v ∈ vs,Bad f H v
theorem Bads.cons {f : PyData -> Bool} {H : Hp} {v : V} {vs : List V} (h : Bad f H v) (r : Bads f H vs) : Bads f H (v :: vs) := fun w hw=>by
 rcases List.mem_cons.mp hw with rfl | hw
 ·exact h
 ·exact r w hw
theorem kqD {q : Addr} {H H' : Hp} {o : HO} (hq : H q = none) (sm : Same H H') : Same H (upd H' q o) := fun b u e=>by
 rw [aqo (aqm e hq)]; exact sm _ _ e
def dg (i : Int) : List Nat := (Str.ofString (toString i)).cps.toList
theorem pq9 {i : Int} (hi : 0 <= i) : ∀ c ∈ dg i,48 <= c /\ c <= 57 := by
 intro c hc
 obtain ⟨n,rfl⟩ := Int.eq_ofNat_of_zero_le hi
 unfold dg at hc
 rw [PySem.W.KIN.signs_num,List.mem_map] at hc
 obtain ⟨d,hd,rfl⟩ := hc
 have := Nat.isDigit_of_mem_toDigits (by decide) (by decide) hd
 simp only [Char.isDigit,Bool.and_eq_true,decide_eq_true_eq] at this
 exact ⟨this.1,this.2⟩
def Hd (p : Nat -> Bool) (r : List Nat) : Prop := ∀ c r',r = c :: r' -> p c = true
theorem Hd.cons {p : Nat -> Bool} {c : Nat} {r : List Nat} (h : p c = true) : Hd p (c :: r) := fun d r' e=>by injection e with e; exact e ▸ h
def tlT (sep : Nat) : List (List Nat) -> List Nat
 | [] => []
 | s :: r=>sep :: (s ++ tlT sep r)
def joinT (sep : Nat) : List (List Nat) -> List Nat
 | [] => []
 | s :: r=>s ++ tlT sep r
def oT (sep : Nat) : Option (List Nat) -> List Nat
 | none=>[]
 | some l=>sep :: wr l
def pairT (p : List Nat × Option (List Nat)) : List Nat := wr p.1 ++ oT 61 p.2
def queT : Option (List (List Nat × Option (List Nat))) -> List Nat
 | none=>[]
 | some ps=>63 :: joinT 38 (ps.map pairT)
def wayT (r : Bool) (ss : List (List Nat)) (e : Bool) : List Nat := (if r then [47] else []) ++ (joinT 47 (ss.map wr) ++ (if e && !ss.isEmpty then [47] else []))
def dooT : Option Int -> List Nat
 | none=>[]
 | some i=>58 :: dg i
def houT : Option (List Nat) -> List Nat
 | none=>[]
 | some l=>47 :: 47 :: wr l
def schT (s : List Nat) : List Nat := if s = [] then [] else s ++ [58]
def Ad.wayT (x : Ad) : List Nat := Wm.wayT x.rooted x.steps x.ends
def Ad.shw (x : Ad) : List Nat := schT x.scheme ++ (houT x.house ++ (dooT x.door ++ (x.wayT ++ (queT x.quest ++ oT 35 x.mark))))
def PairOk (p : List Nat × Option (List Nat)) : Prop := (0 < p.1.length /\ ∀ c ∈ p.1,isSg c = true) /\ ∀ v,p.2 = some v -> ∀ c ∈ v,isSg c = true
def StepOk (s : List Nat) : Prop := 0 < s.length /\ ∀ c ∈ s,isSg c = true
structure Ad.Wf (x : Ad) : Prop where
 sch : x.scheme.length <= 8 /\ (∀ c ∈ x.scheme,isAln c = true) /\ ∀ c ∈ x.scheme.take 1,isLet c = true
 hou : ∀ l,x.house = some l -> (0 < l.length /\ l.length <= 60) /\ ∀ c ∈ l,isSg c = true
 doo : ∀ i,x.door = some i -> (0 <= i /\ i <= 65535) /\ x.house ≠ none
 stp : ∀ s ∈ x.steps,StepOk s
 roo : x.scheme ≠ [] \/ x.house ≠ none -> x.rooted = true
 end_ : x.steps = [] -> x.ends = x.rooted
 que : ∀ ps,x.quest = some ps -> ∀ p ∈ ps,PairOk p
 mar : ∀ l,x.mark = some l -> ∀ c ∈ l,isSg c = true
def Ad.mid (x : Ad) : List Nat := houT x.house ++ (dooT x.door ++ x.wayT)
def Ad.pre (x : Ad) : List Nat := schT x.scheme ++ x.mid
def LayAt (n : Nat) (d : PyData) : Prop := d.canLay0 = true /\ d.depth <= n
theorem LayAt.shaped {n : Nat} {d : PyData} (h : LayAt n d) (hn : n <= 64) : SeqAt.shaped d = true := by
 unfold SeqAt.shaped; rw [h.1,decide_eq_true (Nat.le_trans h.2 hn)]; rfl
theorem LayAt.le {n m : Nat} {d : PyData} (h : LayAt n d) (hn : n <= m) : LayAt m d := ⟨h.1,Nat.le_trans h.2 hn⟩
theorem layAll {n : Nat} : ∀ {ds : List PyData},(∀ d ∈ ds,LayAt n d) -> PyData.canLayAll0 ds = true /\ PyData.depthAll ds <= n
 | [],_=>⟨rfl,Nat.zero_le _⟩
 | d :: ds,h=>by
  obtain ⟨h1,h2⟩ := layAll (ds := ds) fun e he=>h e (List.mem_cons_of_mem _ he)
  have := h d (List.mem_cons_self ..)
  simp only [PyData.canLayAll0,PyData.depthAll,this.1,h1,Bool.and_self,true_and]
  exact Nat.max_le.mpr ⟨this.2,h2⟩
theorem LayAt.tup {n : Nat} {ds : List PyData} (h : ∀ d ∈ ds,LayAt n d) : LayAt (n + 1) (.tuple ds) := by
 obtain ⟨h1,h2⟩ := layAll h
 exact ⟨by simp only [PyData.canLay0,h1],by simp only [PyData.depth]; omega⟩
theorem LayAt.st {l : List Nat} (h : ∀ c ∈ l,isSg c = true) : LayAt 0 (st l) := by
 refine ⟨?_,Nat.le_refl _⟩
 simp only [PyData.canLay0,PyData.strOk,List.all_toArray,List.all_eq_true,decide_eq_true_eq]
 intro c hc
 have := nqk (h c hc)
 omega
theorem LayAt.bool {b : Bool} : LayAt 0 (.bool b) := ⟨rfl,Nat.le_refl _⟩
end Wm
namespace Wm
structure Ad.Sz (x : Ad) : Prop where
 stp : ∀ s ∈ x.steps,s.length <= 2000
 que : ∀ ps,x.quest = some ps -> ps.length <= 2000 /\ ∀ p ∈ ps,p.1.length <= 2000 /\ ∀ v,p.2 = some v -> v.length <= 2000
 mar : ∀ l,x.mark = some l -> l.length <= 2000
 num : x.steps.length <= 2000
 all : x.shw.length <= 90000
end Wm
namespace Wm
open PySem L2
end Wm
namespace L2
open PySem
end L2
namespace Wm
open PySem L2
abbrev Stp := List Nat
def sUp : Stp := [46,46]
def sStay : Stp := [46]
def isDot (s : Stp) : Bool := decide (s = sUp) || decide (s = sStay)
theorem bq3 {s : Stp} : isDot s = false ↔ s ≠ sUp /\ s ≠ sStay := by simp [isDot]
def fwd (r : Bool) (q : Nat × List Stp) (s : Stp) : Nat × List Stp :=
 if s = sUp then (match q.2 with | [] => (if r then q.1 else q.1 + 1,[]) | _ :: t=>(q.1,t))
 else if s = sStay then q else (q.1,s :: q.2)
def goneS (r : Bool) (ss : List Stp) : List Stp := List.replicate (ss.foldl (fwd r) (0,[])).1 sUp ++ (ss.foldl (fwd r) (0,[])).2.reverse
def lastDot (ss : List Stp) : Bool := match ss.getLast? with | some s=>isDot s | none=>false
def goneW (r : Bool) (ss : List Stp) (e : Bool) : Bool × List Stp × Bool :=
 if ss = [] then (r,[],e) else if goneS r ss = [] then (r,if r then [] else [sStay],true) else (r,goneS r ss,e || lastDot ss)
def stk (q : Nat × List Stp) : List Stp := List.replicate q.1 sUp ++ q.2.reverse
end Wm
namespace L2
open PySem PySem.Spec PyProof.Rows HT
section
variable {prog : Program} {w : World} {A : Around} {E : Value -> Shared -> Prop} {s : Shared}
theorem fqO {t sl : Addr} {items : Array Value} {vl vu : Value} {lo hi : Option Int} {Q : Value -> Shared -> Prop} (ht : IsTup s.heap t items) (hs : s.heap.IsSliceOf sl vl vu .none) (pl : IsPart vl lo) (pu : IsPart vu hi)
  (hw : sIx items.size 0 lo = 0 /\ sIx items.size items.size hi = items.size) (h : Q (.ref t) s) : wpAny (model prog w) A (getItem (.ref t) (.ref sl)) Q E s := by
 obtain ⟨os,hos,hcs,hds⟩ := id hs
 have hTs : s.TypeIs (.ref sl) "slice" := ⟨os,hos,hcs⟩
 unfold getItem
 try with_reducible refine wpAny_holding ?_
 first | refine wpAny_bind (wpAny_pure ?_) | skip
 refine wpAny_bind (wpAny_sequenceKey ht.typeIs (by decide) ?_)
 refine wpAny_bind (wpAny_callSpecial?_slot (name := Str.ofString "__getitem__") ht.typeIs PyProof.Rows.slot_tuple_getitem
  (wpAny_call_entry PyProof.Rows.slot_tuple_getitem ht.typeIs entry_tuple_getitem ?_ (args_tuple_getitem _ _)))
 show wpAny _ _ (Builtin.Tuple.tupleItemsOf (.ref t) >>= _) _ _ s
 refine wpAny_bind (tupleItemsOf_ ht ?_)
 refine wpAny_bind (wpAny_typeOf hTs ?_)
 rw [if_pos (by decide)]
 refine wpAny_bind (eqi hs pl pu ?_)
 show wpAny _ _ (if (((sIx items.size 0 lo : Nat) : Int) == 0 && (1 : Int) == 1 && (sIx items.size items.size hi - sIx items.size 0 lo) == items.size) = true then _ else _) _ _ s
 rw [if_pos (by rw [hw.1,hw.2]; simp)]
 refine wpAny_bind ?_
 show wpAny _ _ (typeOf (.ref t) >>= _) _ _ s
 refine wpAny_bind (wpAny_typeOf ht.typeIs (wpAny_pure ?_))
 rw [if_pos (by decide)]
 exact wpAny_bind (wpAny_rule (wpAny_pure ⟨_,rfl,wpAny_pure h⟩))
end
section
variable {X : Cx} {K : PySem.W.Frag}
def rSlTA : V -> Option Int -> Option Int -> Hp -> VK -> Prop := fun x lo hi H Q=>∃ a xs,x = .ref a /\ H a = some (.tup xs) /\ ∀ p H',Same H H' -> H' p = some (.tup (cutV xs lo hi)) -> Q (.ref p) H'
theorem mqA {xs : List V} {lo hi : Option Int} (h : sIx xs.length 0 lo = 0 /\ sIx xs.length xs.length hi = xs.length) : cutV xs lo hi = xs := by
 unfold cutV
 rw [h.1,h.2,List.drop_zero,Nat.sub_zero,List.take_length]
theorem lqT : SlR X rSlTA := by
 intro pins s σ H x v vl vu lo hi sl Q I rx hs pl pu h
 obtain ⟨a,xs,rfl,hx,q⟩ := h
 by_cases hw : sIx xs.length 0 lo = 0 /\ sIx xs.length xs.length hi = xs.length
 ·cases rx
  obtain ⟨its,r,ht,hz⟩ := I.tuple (SqT.of hx)
  have hlen : its.toArray.size = xs.length := by rw [List.size_toArray]; exact r.length.symm
  refine ⟨"tuple", _,PyProof.Rows.slot_tuple_getitem.lookup,ht.typeIs,?_⟩
  exact fqO ht hs pl pu (by rw [hlen]; exact hw) ⟨.ref a,H,I,rfl,q a H (Same.refl _) (by rw [mqA hw]; exact hx)⟩
 ·exact tqe pins s σ H _ v vl vu lo hi sl Q I rx hs pl pu ⟨a,xs,rfl,SqT.of hx,hw,fun p hp=>q p _ (aqR hp) aqj⟩
theorem pqb {a : Addr} {lo hi : Option Int} {H : Hp} {Q : VK} : rSlTA (.ref a) lo hi H Q ↔ ∃ xs,H a = some (.tup xs) /\ ∀ p H',Same H H' -> H' p = some (.tup (cutV xs lo hi)) -> Q (.ref p) H' := by
 constructor
 ·rintro ⟨p,bs,h1,h2⟩; cases h1; exact ⟨bs,h2⟩
 ·rintro ⟨bs,h⟩; exact ⟨a,bs,rfl,h⟩
end
mutual
inductive IsK (K : PySem.W.Frag) (H : Hp) : PyData -> V -> Prop
 | non : IsK K H .none .non
 | bl (b : Bool) : IsK K H (.bool b) (.bl b)
 | int (i : Int) : IsK K H (.int i) (.int i)
 | str (x : Str) : IsK K H (.str x) (.str x)
 | tup {p : Addr} {xs : List V} {ds : List PyData} : SqT K H p xs -> IsKAll K H ds xs -> IsK K H (.tuple ds) (.ref p)
inductive IsKAll (K : PySem.W.Frag) (H : Hp) : List PyData -> List V -> Prop
 | nil : IsKAll K H [] []
 | cons {d : PyData} {x : V} {ds : List PyData} {xs : List V} : IsK K H d x -> IsKAll K H ds xs -> IsKAll K H (d :: ds) (x :: xs)
end
section
variable {K : PySem.W.Frag} {H H' : Hp}
mutual
theorem IsK.mono (sm : Same H H') : ∀ {d : PyData} {x : V},IsK K H d x -> IsK K H' d x
 | _,_,.non=>.non
 | _,_,.bl b=>.bl b
 | _,_,.int i=>.int i
 | _,_,.str x=>.str x
 | _,_,.tup h r=>.tup (sm.tup h) (IsKAll.mono sm r)
theorem IsKAll.mono (sm : Same H H') : ∀ {ds : List PyData} {xs : List V},IsKAll K H ds xs -> IsKAll K H' ds xs
 | _,_,.nil=>.nil
 | _,_,.cons h r=>.cons (IsK.mono sm h) (IsKAll.mono sm r)
end
mutual
theorem IsT.k : ∀ {d : PyData} {x : V},IsT H d x -> IsK K H d x
 | _,_,.non=>.non
 | _,_,.bl b=>.bl b
 | _,_,.int i=>.int i
 | _,_,.str x=>.str x
 | _,_,.tup h r=>.tup (SqT.of h) (IsTAll.k r)
theorem IsTAll.k : ∀ {ds : List PyData} {xs : List V},IsTAll H ds xs -> IsKAll K H ds xs
 | _,_,.nil=>.nil
 | _,_,.cons h r=>.cons (IsT.k h) (IsTAll.k r)
end
end
section
variable {X : Cx} {pins : List (Addr × Obj)} {σ : St} {H : Hp} {s : Shared}
mutual
theorem IsK.reads (I : Inv X pins σ H s) : ∀ {d : PyData} {x : V} {v : Value},IsK X.K H d x -> RelV x v -> ∃ as,Reads s.heap v d as
 | _,_,_,.non,r=>by cases r; exact ⟨_,.none⟩
 | _,_,_,.bl b,r=>by cases r; exact ⟨_,.bool b⟩
 | _,_,_,.int i,r=>by obtain ⟨t,rfl⟩ := r; exact ⟨_,.int i t⟩
 | _,_,_,.str x,r=>by obtain ⟨t,rfl⟩ := r; exact ⟨_,.str x t⟩
 | _,_,_,.tup h q,r=>by
  cases r
  obtain ⟨its,vs,⟨o,e,c,n,dt⟩,_⟩ := I.tuple h
  obtain ⟨as,ra⟩ := IsKAll.reads I q vs
  exact ⟨_,.tuple e c dt (by simpa using ra)⟩
theorem IsKAll.reads (I : Inv X pins σ H s) : ∀ {ds : List PyData} {xs : List V} {vs : List Value},IsKAll X.K H ds xs -> Vals xs vs -> ∃ as,ReadsAll s.heap vs ds as
 | _,_,_,.nil,r=>by cases r; exact ⟨_,.nil⟩
 | _,_,_,.cons q t,r=>by
  cases r with
  | cons r1 r2 =>
   obtain ⟨as,h1⟩ := IsK.reads I q r1
   obtain ⟨bs,h2⟩ := IsKAll.reads I t r2
   exact ⟨_,.cons h1 h2⟩
end
variable {K : PySem.W.Frag}
def rSlX (K : PySem.W.Frag) : V -> Option Int -> Option Int -> Hp -> VK -> Prop := fun x lo hi H Q=>∃ a xs,x = .ref a /\ SqT K H a xs /\ ∀ p H',Same H H' -> SqT K H' p (cutV xs lo hi) -> Q (.ref p) H'
theorem rqd {a : Addr} {lo hi : Option Int} {H : Hp} {Q : VK} : rSlX K (.ref a) lo hi H Q ↔ ∃ xs,SqT K H a xs /\ ∀ p H',Same H H' -> SqT K H' p (cutV xs lo hi) -> Q (.ref p) H' := by
 constructor
 ·rintro ⟨p,bs,h1,h2⟩; cases h1; exact ⟨bs,h2⟩
 ·rintro ⟨bs,h⟩; exact ⟨a,bs,rfl,h⟩
def rCatX (K : PySem.W.Frag) : R2 := fun x y H Q=>∃ a b xs ys,x = .ref a /\ y = .ref b /\ SqT K H a xs /\ SqT K H b ys /\ xs.length + ys.length <= sizeLine /\ ∀ p H',Same H H' -> SqT K H' p (xs ++ ys) -> Q (.ref p) H'
theorem pqW {a b : Addr} {H : Hp} {Q : VK} : rCatX K (.ref a) (.ref b) H Q ↔ ∃ xs ys,SqT K H a xs /\ SqT K H b ys /\ xs.length + ys.length <= sizeLine /\ ∀ p H',Same H H' -> SqT K H' p (xs ++ ys) -> Q (.ref p) H' := by
 constructor
 ·rintro ⟨p,p',xs,ys,h1,h2,h3⟩; cases h1; cases h2; exact ⟨xs,ys,h3⟩
 ·rintro ⟨xs,ys,h⟩; exact ⟨a,b,xs,ys,rfl,rfl,h⟩
def KindK (K : PySem.W.Frag) (H : Hp) (x : V) (k : String) : Prop := kindV x H = some k \/ ∃ a xs,x = .ref a /\ SqT K H a xs /\ k = "tuple"
theorem KindK.tup {K : PySem.W.Frag} {H : Hp} {a : Addr} {xs : List V} (h : SqT K H a xs) : KindK K H (.ref a) "tuple" := .inr ⟨a,xs,rfl,h,rfl⟩
def rIsiX (K : PySem.W.Frag) : List V -> Hp -> VK -> Prop := fun vs H Q=>match vs with
 | [x,.ty T] => ∃ k,KindK K H x k /\ T ∈ ["bool", "int", "str", "list", "tuple"] /\ Q (.bl (subT k T)) H
 | _=>False
theorem oqV {x : V} {T : String} {H : Hp} {Q : VK} : (rIsiX K [x,.ty T] H Q) = (∃ k,KindK K H x k /\ T ∈ ["bool", "int", "str", "list", "tuple"] /\ Q (.bl (subT k T)) H) := rfl
end
end L2
namespace Wm
open PySem L2
section
variable {K : PySem.W.Frag} {H : Hp}
end
end Wm
namespace L2
open PySem PySem.Spec PyProof.Rows
theorem Vals.at {xs : List V} {us : List Value} (h : Vals xs us) : ∀ (i : Nat),(∃ x u,xs[i]? = some x /\ us[i]? = some u /\ RelV x u) \/ (xs[i]? = none /\ us[i]? = none) := by
 induction h with
 | nil=>intro i; exact .inr ⟨by simp,by simp⟩
 | cons r _ ih =>
  intro i
  cases i with
  | zero=>exact .inl ⟨_,_,rfl,rfl,r⟩
  | succ i=>simpa using ih i
theorem Vals.pick {xs : List V} {us : List Value} (h : Vals xs us) : ∀ (l : List Nat),Vals (l.filterMap fun i=>xs[i]?) (l.filterMap fun i=>us[i]?)
 | [] => .nil
 | i :: l=>by
  rcases h.at i with ⟨x,u,h1,h2,r⟩ | ⟨h1,h2⟩
  ·rw [List.filterMap_cons_some h1,List.filterMap_cons_some h2]; exact .cons r (h.pick l)
  ·rw [List.filterMap_cons_none h1,List.filterMap_cons_none h2]; exact h.pick l
def pickV {α : Type} (xs : List α) (lo hi st : Option Int) : List α :=
 (sliceRange (sliceBounds lo hi st xs.length).1 (sliceBounds lo hi st xs.length).2.1 (sliceBounds lo hi st xs.length).2.2).filterMap fun i=>xs[i]?
section
variable {X : Cx}
def tSl3 (K : PySem.W.Frag) (te : TE) (tl th ts : TO) : TE := fun σ H Q=>te σ H fun x H1=>tl σ H1 fun l H2=>th σ H2 fun u H3=>ts σ H3 fun k H4 =>
 ∃ a xs,x = .ref a /\ SqL K H4 a xs /\ k ≠ some 0 /\ (pickV xs l u k).length <= sizeLine /\ ∀ p,H4 p = none -> Q (.ref p) (upd H4 p (.lst (pickV xs l u k)))
theorem nqv {e : Expr} {lo hi : Option Expr} {st : Expr} {te : TE} {tl th ts : TO} {p2 pos : Pos} (he : PE X e te) (hl : PO X lo tl) (hu : PO X hi th) (hs : PO X (some st) ts) : PE X (.Subscript e (.Slice lo hi (some st) p2) pos) (tSl3 X.K te tl th ts) := by
 intro pins s σ H Q I h
 refine Subscript_ (thn (he pins s σ H _ I h) fun v s1 W' => ?_)
 obtain ⟨x,H1,I1,r1,q1⟩ := W'
 refine wpAny_Slice (thn (hl pins s1 σ H1 _ I1 q1) fun vl s2 ⟨l,H2,I2,pl,q2⟩=>thn (hu pins s2 σ H2 _ I2 q2) fun vu s3 ⟨u,H3,I3,pu,q3⟩=>thn (hs pins s3 σ H3 _ I3 q3) fun vs s4 W' => ?_)
 obtain ⟨k,H4,I4,ps,q4⟩ := W'
 have I5 : Inv X pins σ H4 { s4 with heap := s4.heap.push { cls := .type "slice", data := .fields #[vl,vu,vs] } } := I4.kept (t' := s4.toks) fun b ob q=>Heap.get?_push_of_some _ q
 obtain ⟨a,xs,rfl,hx,hk,hz,q⟩ := q4
 cases r1
 obtain ⟨its,r,ht,_⟩ := I5.list hx
 have hlen := r.length
 show wpAny (model X.prog X.w) X.A (subscriptTail e (.Slice lo hi (some st) p2) (.ref a) (.ref s4.heap.objs.size)) (EP X pins σ Q) X.xe { s4 with heap := s4.heap.push { cls := .type "slice", data := .fields #[vl,vu,vs] } }
 refine tail_any (ops := [.ref a,.ref s4.heap.objs.size]) ht.isList.typeIs slot_list_getitem.lookup ?_ (by with_unfolding_all rfl)
 refine wpAny_getItem_list_slice ht.isList (Heap.IsSliceOf.new ..) pl pu ps hk ?_ (by rw [List.size_toArray] <;> omega)
 have e : slicePick its.toArray l u k = ((sliceRange (sliceBounds l u k xs.length).1 (sliceBounds l u k xs.length).2.1 (sliceBounds l u k xs.length).2.2).filterMap fun i=>its[i]?).toArray := by
  unfold slicePick
  rw [List.size_toArray,<- hlen]
  simp
 rw [e]
 refine ⟨.ref _,_,I5.laid (t' := s4.toks) (o := .lst (pickV xs l u k)) (fun b ob q=>Heap.get?_push_of_some _ q) (Nat.le_refl _) ?_,rfl,q _ (I5.hok.fresh (Nat.le_refl _))⟩
 exact ⟨hz,_,0,r.pick _,Heap.get?_push_size _ rfl⟩
theorem mqD {K : PySem.W.Frag} {e : Expr} {lo hi : Option Expr} {st : Expr} {te : TE} {tl th ts : TO} {p2 pos : Pos} (h : X.K = K) (he : PE X e te) (hl : PO X lo tl) (hu : PO X hi th) (hs : PO X (some st) ts) : PE X (.Subscript e (.Slice lo hi (some st) p2) pos) (tSl3 K te tl th ts) := by
 subst h; exact nqv he hl hu hs
end
theorem tqk {K : PySem.W.Frag} {te : TE} {tl th ts : TO} {σ : St} {H : Hp} {Q : VK} : tSl3 K te tl th ts σ H Q ↔ te σ H fun x H1=>tl σ H1 fun l H2=>th σ H2 fun u H3=>ts σ H3 fun k H4 =>
 ∃ a xs,x = .ref a /\ SqL K H4 a xs /\ k ≠ some 0 /\ (pickV xs l u k).length <= sizeLine /\ ∀ p,H4 p = none -> Q (.ref p) (upd H4 p (.lst (pickV xs l u k))) := Iff.rfl
end L2
namespace Wm
open PySem L2
abbrev Way := Bool × List Stp × Bool
def Ad.w (x : Ad) : Way := (x.rooted,x.steps,x.ends)
def Ad.withWay (x : Ad) (w : Way) : Ad := { x with rooted := w.1,steps := w.2.1,ends := w.2.2 }
def goneV (w : Way) : Way := goneW w.1 w.2.1 w.2.2
def Ad.gone (x : Ad) : Ad := x.withWay (goneV x.w)
theorem tqn {l : Addr} {H : Hp} {Q : VK} : rReverse (.ref l) [] H Q ↔ ∃ xs,H l = some (.lst xs) /\ Q .non (upd H l (.lst xs.reverse)) :=
 ⟨fun ⟨_,xs,e,_,h,q⟩=>by cases e; exact ⟨xs,h,q⟩,fun ⟨xs,h,q⟩=>⟨l,xs,rfl,rfl,h,q⟩⟩
abbrev sV (l : List Nat) : V := .str ⟨l.toArray⟩
theorem eq7 (ds : List PyData) : PyData.eqv (.list ds) (.list []) = ds.isEmpty := by
 cases ds <;> simp [PyData.eqv,PyData.eqvAll]
theorem jqw {α : Type} {l : List α} {s : α} (g : α -> V) (h : l.getLast? = some s) : atI (l.map g) (-1) = some (g s) := by
 obtain ⟨pre,rfl⟩ := List.getLast?_eq_some_iff.mp h
 have e : ixN ((pre ++ [s]).map g).length (-1) = some pre.length := by
  unfold ixN
  simp
  try omega
 unfold atI
 rw [e]
 simp
end Wm
namespace L2
open PySem
theorem gqT {X : Cx} {K : PySem.W.Frag} (h : X.K = K) : OpR X (compareOp .In) (rIn K false) := by subst h; exact nq4
theorem rq7 {l : Addr} {H : Hp} {Q : VK} : rPop (.ref l) [] H Q ↔ ∃ xs y,H l = some (.lst xs) /\ xs[xs.length - 1]? = some y /\ Q y (upd H l (.lst xs.dropLast)) :=
 ⟨fun ⟨_,xs,y,h1,_,h3,h4,h5⟩=>by cases h1; exact ⟨xs,y,h3,h4,h5⟩,fun ⟨xs,y,h3,h4,h5⟩=>⟨_,xs,y,rfl,rfl,h3,h4,h5⟩⟩
theorem pqU {D : Ends} {σ : St} {H : Hp} : (tNever D σ H) = (False) := rfl
end L2
namespace Wm
open PySem L2
structure Ad.Tiny (x : Ad) : Prop where
 stp : ∀ s ∈ x.steps,s.length <= 9
 que : ∀ ps,x.quest = some ps -> ps.length <= 3 /\ ∀ p ∈ ps,p.1.length <= 5 /\ ∀ v,p.2 = some v -> v.length <= 6
 mar : ∀ l,x.mark = some l -> l.length <= 7
 hou : ∀ l,x.house = some l -> l.length <= 13
end Wm
namespace Wm
end Wm
namespace Wm
open PySem L2
def cutA {α : Type} (xs : List α) (lo hi : Option Int) : List α := (xs.drop (HT.sIx xs.length 0 lo)).take (HT.sIx xs.length xs.length hi - HT.sIx xs.length 0 lo)
theorem pqN {α : Type} (f : α -> V) (xs : List α) (lo hi : Option Int) : cutV (xs.map f) lo hi = (cutA xs lo hi).map f := by
 unfold cutV cutA; rw [List.length_map,List.map_take,List.map_drop]
end Wm
namespace L2
open PySem
end L2
namespace Wm
open PySem L2
section
variable {H : Hp}
end
theorem Ad.Wf.local {x : Ad} (h : x.Wf) : ({ x with scheme := [],house := none,door := none } : Ad).Wf :=
 ⟨⟨Nat.zero_le _,(fun c hc=>by cases hc),(fun c hc=>by cases hc)⟩,(fun l e=>by cases e),(fun l e=>by cases e),h.stp,(fun z=>z.elim (fun y=>absurd rfl y) (fun y=>absurd rfl y)),h.end_,h.que,h.mar⟩
def Goods (n : Nat) (H : Hp) (vs : List V) : Prop := ∀ v ∈ vs,∃ x : Ad,x.Wf /\ x.steps.length <= n /\ IsT H x.data v
theorem Goods.cons {n : Nat} {H : Hp} {v : V} {vs : List V} {x : Ad} (h1 : x.Wf) (h2 : x.steps.length <= n) (h3 : IsT H x.data v) (h : Goods n H vs) : Goods n H (v :: vs) := fun u hu=>by
 rcases List.mem_cons.mp hu with rfl | hu
 ·exact ⟨x,h1,h2,h3⟩
 ·exact h u hu
end Wm
namespace L2
open PySem PySem.Spec PyProof.Rows
theorem tqH {b c : Bool} {H : Hp} {Q : VK} : (rIsB true (.bl b) (.bl c) H Q) = (Q (.bl (!decide (b = c))) H) := rfl
end L2
namespace Wm
open PySem L2
structure GoodAd (n : Nat) (x : Ad) : Prop where
 wf : x.Wf
 ti : x.Tiny
 sc : x.scheme ≠ []
 ln : x.steps.length <= n
end Wm
namespace L2
open PySem PySem.Spec PyProof.Rows
section
variable {prog : Program} {w : World} {A : Around} {E : Value -> Shared -> Prop} {s : Shared}
end
def Itv (K : PySem.W.Frag) (a : Addr) (n : Nat) : It :=
 ⟨fun i H=>∃ xs x,SqT K H a xs /\ xs.length = n /\ i < n /\ xs[n - 1 - i]? = some x,fun i H x H' => H' = H /\ ∀ xs,SqT K H a xs -> xs.length = n -> xs[n - 1 - i]? = some x,fun i _=>n <= i⟩
section
variable {X : Cx} {tg : Expr} {K : PySem.W.Frag}
def iRev (K : PySem.W.Frag) (ta : TA) : TI := fun σ H R=>ta σ H fun vs H1=>∃ a xs,vs = [.ref a] /\ SqT K H1 a xs /\ R (Itv K a xs.length) H1
variable {σ : St} {H : Hp} {D : Ends} {g : TG} {tb : TS} {aa : TA}
theorem rqr : (tFor (iRev K aa) g tb D σ H) = (aa σ H fun vs H1=>∃ a xs,vs = [.ref a] /\ SqT K H1 a xs /\ LoopI (Itv K a xs.length) g tb D σ H1) := rfl
end
theorem jq5 : fillsNumberSlot (.type "tuple") "mul" = pure false := PySem.fillsNumberSlot_seq (id := "tuple.__mul__") (r := some (.builtin "tuple.__rmul__")) F.slot_tuple_mul.lookup (by decide +kernel) F.slot_tuple_rmul.lookup (by decide +kernel)
theorem kqU : seqRepeat? (.type "tuple") = pure (some (.builtin "tuple.__mul__")) := by
 unfold seqRepeat?
 rw [PySem.seqSlot_of (T := "tuple") (name := "__mul__") (id := "tuple.__mul__") F.slot_tuple_mul.lookup (by decide +kernel),PySem.seqSlot_of (T := "tuple") (name := "__rmul__") (id := "tuple.__rmul__") F.slot_tuple_rmul.lookup (by decide +kernel)]
 rfl
theorem nqm (a : Int) (t : Tok) (l : Addr) (items : Array Value) (n : Nat) (dd : Option Addr) (sl : Array (Option Value)) :
  Meets (Builtin.«int.__rmul__» ⟨[.int a t,.ref l],[]⟩) (fun _ R s=>s.heap.get? l = some { cls := .type "tuple", dict := dd,data := .seq items n,slots := sl } /\ R (.ok (.ret Value.notImplemented)) s) :=
 .of_wp fun prog w A R s h=>by
  obtain ⟨hp,g,d,tk,os⟩ := s; obtain ⟨hl,h⟩ := h
  wp_walk; exact ⟨_,rfl,h⟩
theorem sqt (l : Addr) (items : Array Value) (n : Nat) (dd : Option Addr) (sl : Array (Option Value)) (x : Int) (u : Tok) (h0 : items.isEmpty = false) (h1 : ¬ (decide (x < -(2 ^ 63)) || decide (x ≥ 2 ^ 63)) = true) (h2 : 2 <= x) (h3 : ¬ ((items.size : Int) * x > (2 ^ 63 - 1) / 8)) (h4 : (items.size : Int) * x <= sizeLine) :
  Meets (Builtin.«tuple.__mul__» ⟨[.ref l,.int x u],[]⟩) (fun _ R s=>s.heap.get? l = some { cls := .type "tuple", dict := dd,data := .seq items n,slots := sl } /\
   R (.ok (.ret (Value.ref s.heap.objs.size))) { s with heap := s.heap.push { cls := Value.type "tuple", data := Data.seq (List.foldl (fun x1 x2=>x1 ++ x2) #[] (List.replicate x.toNat items)) },toks := s.toks }) :=
 .of_wp fun prog w A R s h=>by
  obtain ⟨hp,g,d,tk,os⟩ := s; obtain ⟨hl,h⟩ := h
  unfold Builtin.«tuple.__mul__»
  wp_walk
  have hx1 : ¬ (items.isEmpty || x == 1) = true := by rw [h0,Bool.false_or]; intro z; have := eq_of_beq z; omega
  have hx2 : ¬ (decide (x <= 0) || items.isEmpty) = true := by rw [h0,Bool.or_false,decide_eq_true_eq]; omega
  have hx3 : ¬ Builtin.Tuple.tupleTooMany ((items.size : Int) * x) = true := by unfold Builtin.Tuple.tupleTooMany; rw [decide_eq_true_eq]; omega
  rw [if_neg h1]
  wp_walk
  rw [if_neg hx1]
  try dsimp only
  rw [if_neg hx2]
  try dsimp only
  rw [if_neg h3]
  try dsimp only
  rw [if_neg hx3]
  refine wpAny_bind (m := Builtin.Tuple.tupleExact _) (wpAny_newObj_type (wpAny_pure ⟨_,rfl,h⟩) ?_)
  show (List.foldl (fun x1 x2=>x1 ++ x2) #[] (List.replicate x.toNat items)).size <= sizeLine
  have e : List.foldl (fun x1 x2=>x1 ++ x2) #[] (List.replicate x.toNat items.toList.toArray) = (List.replicate x.toNat items.toList).flatten.toArray := by
   have := gqt items.toList x.toNat []
   rw [List.nil_append] at this
   exact this
  rw [show items.toList.toArray = items by simp] at e
  rw [e,List.size_toArray,lqP,Array.length_toList]
  have : (items.size : Int) * x = ((x.toNat * items.size : Nat) : Int) := by rw [Int.natCast_mul,Int.toNat_of_nonneg (by omega),Int.mul_comm]
  omega
section
variable {X : Cx}
def rRepT : R2 := fun x y H Q=>∃ a k xs,x = .ref a /\ y = .int k /\ H a = some (.tup xs) /\ 2 <= k /\ k < 1000 /\ xs.length * k.toNat <= sizeLine /\ ∀ p H',Same H H' -> H' p = some (.tup (List.replicate k.toNat xs).flatten) -> Q (.ref p) H'
theorem nqT (l : Addr) (items : Array Value) (n : Nat) (dd : Option Addr) (sl : Array (Option Value)) (x : Int) (u : Tok) (h0 : items.isEmpty = true) (h1 : ¬ (decide (x < -(2 ^ 63)) || decide (x ≥ 2 ^ 63)) = true) :
  Meets (Builtin.«tuple.__mul__» ⟨[.ref l,.int x u],[]⟩) (fun _ R s=>s.heap.get? l = some { cls := .type "tuple", dict := dd,data := .seq items n,slots := sl } /\ R (.ok (.ret (Value.ref l))) s) :=
 .of_wp fun prog w A R s h=>by
  obtain ⟨hp,g,d,tk,os⟩ := s; obtain ⟨hl,h⟩ := h
  unfold Builtin.«tuple.__mul__»
  have hx1 : (items.isEmpty || x == 1) = true := by rw [h0,Bool.true_or]
  wp_walk
  rw [if_neg h1]
  wp_walk
  exact ⟨_,rfl,h⟩
theorem rqI : OpR X (binaryOp .Mult) rRepT := by
 intro pins s σ H x y v u Q I rx ry h
 obtain ⟨a,k,xs,rfl,rfl,hH,h1,h2,hz,q⟩ := h
 cases rx
 obtain ⟨t,rfl⟩ := ry
 obtain ⟨its,r,p,hl⟩ := I.tuple (SqT.of hH)
 obtain ⟨⟨cls,dd,data,sl⟩,ho,hc,n,hd⟩ := id p
 simp only at hc hd
 subst hc hd
 have hlen := r.length
 have hb : ¬ (decide (k < -(2 ^ 63)) || decide (k ≥ 2 ^ 63)) = true := by
  rw [Bool.or_eq_true,decide_eq_true_eq,decide_eq_true_eq]; omega
 have hprod : ((its.toArray.size : Nat) : Int) * k <= sizeLine := by
  rw [List.size_toArray,<- hlen]
  have : (xs.length : Int) * k = ((xs.length * k.toNat : Nat) : Int) := by rw [Int.natCast_mul,Int.toNat_of_nonneg (by omega)]
  omega
 refine wpAny_binaryOp_repeat_ref (T := "tuple") (U := "int") (by decide) p.typeIs (fun s' => typeIs_int s' k t) jq5 F.fills_int_mul F.slot_int_rmul kqU F.slot_int_index.lookup
  (call_meets F.slot_int_rmul (typeIs_int s k t) F.entry_int_rmul (F.args_int_rmul_2 _ _) (nqm k t a its.toArray n dd sl) ⟨ho,rfl,p.typeIs,?_⟩)
 by_cases he : its = []
 ·subst he
  have hx0 : xs = [] := r.nil_iff.mp rfl
  subst hx0
  exact call_meets F.slot_tuple_mul p.typeIs F.entry_tuple_mul (F.args_tuple_mul_2 _ _) (nqT a _ n dd sl k t rfl hb) ⟨ho,.ref a,H,I,rfl,q a H (Same.refl _) (by rw [hH]; congr 2; exact (List.flatten_eq_nil_iff.mpr fun l hl=>(List.mem_replicate.mp hl).2).symm)⟩
 ·have h0 : its.toArray.isEmpty = false := by simpa using he
  have hcap : ¬ (((its.toArray.size : Nat) : Int) * k > (2 ^ 63 - 1) / 8) := by
   have : (sizeLine : Int) <= (2 ^ 63 - 1) / 8 := by decide
   omega
  refine call_meets F.slot_tuple_mul p.typeIs F.entry_tuple_mul (F.args_tuple_mul_2 _ _) (sqt a _ n dd sl k t h0 hb h1 hcap hprod) ⟨ho,?_⟩
  have e : List.foldl (fun x1 x2=>x1 ++ x2) #[] (List.replicate k.toNat its.toArray) = (List.replicate k.toNat its).flatten.toArray := by
   have := gqt its k.toNat []
   rw [List.nil_append] at this
   exact this
  rw [e]
  have hf : H s.heap.objs.size = none := I.hok.fresh (Nat.le_refl _)
  refine ⟨.ref s.heap.objs.size,_,I.laid (t' := s.toks) (o := .tup (List.replicate k.toNat xs).flatten) (fun b ob q=>Heap.get?_push_of_some _ q) (Nat.le_refl _) ?_,rfl,q _ _ (aqR hf) aqj⟩
  exact ⟨by rw [lqP,Nat.mul_comm]; exact hz,_,r.rep k.toNat,IsTup.new _ _⟩
theorem pqK {a : Addr} {k : Int} {H : Hp} {Q : VK} : rRepT (.ref a) (.int k) H Q ↔ ∃ xs,H a = some (.tup xs) /\ 2 <= k /\ k < 1000 /\ xs.length * k.toNat <= sizeLine /\ ∀ p H',Same H H' -> H' p = some (.tup (List.replicate k.toNat xs).flatten) -> Q (.ref p) H' := by
 constructor
 ·rintro ⟨a',k',xs,h1,h2,h⟩; cases h1; cases h2; exact ⟨xs,h⟩
 ·rintro ⟨xs,h⟩; exact ⟨a,k,xs,rfl,rfl,h⟩
def rRepS : R2 := fun x y H Q=>∃ l k xs,x = .ref l /\ y = .int k /\ H l = some (.lst xs) /\ 0 <= k /\ k < 1000000 /\ xs.length * k.toNat <= sizeLine /\ ∀ p H',H p = none -> Same H H' -> H' p = some (.lst (List.replicate k.toNat xs).flatten) -> Q (.ref p) H'
theorem rqR : OpR X (binaryOp .Mult) rRepS := by
 intro pins s σ H x y v u Q I rx ry h
 obtain ⟨l,k,xs,hx,hy,hH,h1,h2,hz,q⟩ := h
 exact rqY pins s σ H x y v u Q I rx ry ⟨l,k,xs,hx,hy,hH,by omega,by omega,hz,fun p hp=>q p _ hp (aqR hp) aqj⟩
theorem pqz {a : Addr} {k : Int} {H : Hp} {Q : VK} : rRepS (.ref a) (.int k) H Q ↔ ∃ xs,H a = some (.lst xs) /\ 0 <= k /\ k < 1000000 /\ xs.length * k.toNat <= sizeLine /\ ∀ p H',H p = none -> Same H H' -> H' p = some (.lst (List.replicate k.toNat xs).flatten) -> Q (.ref p) H' := by
 constructor
 ·rintro ⟨a',k',xs,h1,h2,h⟩; cases h1; cases h2; exact ⟨xs,h⟩
 ·rintro ⟨xs,h⟩; exact ⟨a,k,xs,rfl,rfl,h⟩
end
theorem sqs (l : Addr) (items : Array Value) (n : Nat) (dd : Option Addr) (sl : Array (Option Value)) (u : Tok) :
  Meets (Builtin.«tuple.__mul__» ⟨[.ref l,.int 1 u],[]⟩) (fun _ R s=>s.heap.get? l = some { cls := .type "tuple", dict := dd,data := .seq items n,slots := sl } /\ R (.ok (.ret (Value.ref l))) s) :=
 .of_wp fun prog w A R s h=>by
  obtain ⟨hp,g,d,tk,os⟩ := s; obtain ⟨hl,h⟩ := h
  unfold Builtin.«tuple.__mul__»
  have hx1 : (items.isEmpty || ((1 : Int) == 1)) = true := by simp
  have h1 : ¬ (decide ((1 : Int) < -(2 ^ 63)) || decide ((1 : Int) ≥ 2 ^ 63)) = true := by decide
  wp_walk
  first | rw [if_neg h1] | skip
  wp_walk
  first | rw [if_pos hx1] | skip
  wp_walk
  exact ⟨_,rfl,h⟩
theorem rqL (l : Addr) (items : Array Value) (n : Nat) (dd : Option Addr) (sl : Array (Option Value)) (u : Tok) (h0 : items.isEmpty = false) :
  Meets (Builtin.«tuple.__mul__» ⟨[.ref l,.int 0 u],[]⟩) (fun _ R s=>s.heap.get? l = some { cls := .type "tuple", dict := dd,data := .seq items n,slots := sl } /\
   R (.ok (.ret (Value.ref s.heap.objs.size))) { s with heap := s.heap.push { cls := Value.type "tuple", data := Data.seq #[] },toks := s.toks }) :=
 .of_wp fun prog w A R s h=>by
  obtain ⟨hp,g,d,tk,os⟩ := s; obtain ⟨hl,h⟩ := h
  unfold Builtin.«tuple.__mul__»
  have h1 : ¬ (decide ((0 : Int) < -(2 ^ 63)) || decide ((0 : Int) ≥ 2 ^ 63)) = true := by decide
  have hx1 : ¬ (items.isEmpty || ((0 : Int) == 1)) = true := by rw [h0]; decide
  have hx2 : (decide ((0 : Int) <= 0) || items.isEmpty) = true := by simp
  wp_walk
  first | rw [if_neg h1] | skip
  wp_walk
  first | rw [if_neg hx1] | skip
  try dsimp only
  first | rw [if_pos hx2] | skip
  exact ⟨_,rfl,h⟩
section
variable {X : Cx}
def rRepN : R2 := fun x y H Q=>∃ a k xs,x = .ref a /\ y = .int k /\ H a = some (.tup xs) /\ 0 <= k /\ k < 1000 /\ xs.length * k.toNat <= sizeLine /\ ∀ p H',Same H H' -> H' p = some (.tup (List.replicate k.toNat xs).flatten) -> Q (.ref p) H'
theorem rqw : OpR X (binaryOp .Mult) rRepN := by
 intro pins s σ H x y v u Q I rx ry h
 obtain ⟨a,k,xs,rfl,rfl,hH,h1,h2,hz,q⟩ := h
 by_cases hk : 2 <= k
 ·exact rqI pins s σ H _ _ v u Q I rx ry ⟨a,k,xs,rfl,rfl,hH,hk,h2,hz,q⟩
 cases rx
 obtain ⟨t,rfl⟩ := ry
 obtain ⟨its,r,p,hl⟩ := I.tuple (SqT.of hH)
 obtain ⟨⟨cls,dd,data,sl⟩,ho,hc,n,hd⟩ := id p
 simp only at hc hd
 subst hc hd
 refine wpAny_binaryOp_repeat_ref (T := "tuple") (U := "int") (by decide) p.typeIs (fun s' => typeIs_int s' k t) jq5 F.fills_int_mul F.slot_int_rmul kqU F.slot_int_index.lookup
  (call_meets F.slot_int_rmul (typeIs_int s k t) F.entry_int_rmul (F.args_int_rmul_2 _ _) (nqm k t a its.toArray n dd sl) ⟨ho,rfl,p.typeIs,?_⟩)
 have h01 : k = 0 \/ k = 1 := by omega
 rcases h01 with rfl | rfl
 ·by_cases he : its = []
  ·subst he
   have hx0 : xs = [] := r.nil_iff.mp rfl
   subst hx0
   exact call_meets F.slot_tuple_mul p.typeIs F.entry_tuple_mul (F.args_tuple_mul_2 _ _) (nqT a _ n dd sl 0 t rfl (by decide)) ⟨ho,.ref a,H,I,rfl,q a H (Same.refl _) hH⟩
  ·have h0 : its.toArray.isEmpty = false := by simpa using he
   refine call_meets F.slot_tuple_mul p.typeIs F.entry_tuple_mul (F.args_tuple_mul_2 _ _) (rqL a _ n dd sl t h0) ⟨ho,?_⟩
   have hf : H s.heap.objs.size = none := I.hok.fresh (Nat.le_refl _)
   refine ⟨.ref s.heap.objs.size,_,I.laid (t' := s.toks) (o := .tup []) (fun b ob q=>Heap.get?_push_of_some _ q) (Nat.le_refl _) ?_,rfl,q _ _ (aqR hf) aqj⟩
   exact ⟨Nat.zero_le _,[],.nil,IsTup.new _ _⟩
 ·exact call_meets F.slot_tuple_mul p.typeIs F.entry_tuple_mul (F.args_tuple_mul_2 _ _) (sqs a _ n dd sl t) ⟨ho,.ref a,H,I,rfl,q a H (Same.refl _) (by rw [hH]; simp)⟩
theorem oq3 {a : Addr} {k : Int} {H : Hp} {Q : VK} : rRepN (.ref a) (.int k) H Q ↔ ∃ xs,H a = some (.tup xs) /\ 0 <= k /\ k < 1000 /\ xs.length * k.toNat <= sizeLine /\ ∀ p H',Same H H' -> H' p = some (.tup (List.replicate k.toNat xs).flatten) -> Q (.ref p) H' := by
 constructor
 ·rintro ⟨a',k',xs,h1,h2,h⟩; cases h1; cases h2; exact ⟨xs,h⟩
 ·rintro ⟨xs,h⟩; exact ⟨a,k,xs,rfl,rfl,h⟩
end
section
variable {X : Cx}
def intsV (lo : Int) (n : Nat) : List V := (List.range n).map fun k=>.int (lo + (k : Nat))
def tLR (ta : TA) : TE := fun σ H Q=>ta σ H fun vs H1=>∃ j : Int,vs = [.int j] /\ 0 <= j /\ j <= 1000000 /\ ∀ p,H1 p = none -> Q (.ref p) (upd H1 p (.lst (intsV 0 j.toNat)))
end
theorem tqp {ta : TA} {σ : St} {H : Hp} {Q : VK} : (tLR ta σ H Q) = (ta σ H fun vs H1=>∃ j : Int,vs = [.int j] /\ 0 <= j /\ j <= 1000000 /\ ∀ p,H1 p = none -> Q (.ref p) (upd H1 p (.lst (intsV 0 j.toNat)))) := rfl
end L2
namespace L2
open PySem
section
variable {p : Addr} {fv : St} {tt : TT} {te : TE} {Q : VK} {H1 : Hp} {K : PySem.W.Frag}
theorem nqI {a : Addr} {xs : List V} (f : V -> Bool) (g : V -> V) (hxs : SqT K H1 a xs) (hlen : xs.length <= sizeLine) (hp : H1 p = none)
  (ht : ∀ (i : Nat) (x : V),xs[i]? = some x -> ∀ (H' : Hp) (R : Bool -> Hp -> Prop),Same H1 H' -> (∀ H'',Same H' H'' -> R (f x) H'') -> tt (some x :: fv) H' R)
  (he : ∀ (i : Nat) (x : V),xs[i]? = some x -> f x = true -> ∀ (H' : Hp) (T : VK),Same H1 H' -> (∀ H'',Same H' H'' -> T (g x) H'') -> te (some x :: fv) H' T)
  (hQ : ∀ H',Same H1 H' -> H' p = some (.lst ((xs.filter f).map g)) -> Q (.ref p) H') : CompI (Itt K a) p fv tt te Q H1 := by
 refine ⟨fun i m ys H2=>m = xs.length - i /\ i <= xs.length /\ ys = ((xs.take i).filter f).map g /\ H2 p = some (.lst ys) /\ Same H1 H2,⟨xs.length,by simp,Nat.zero_le _,by simp,aqj,fun b o e=>by rw [aqo (aqm e hp)]; exact e⟩,?_⟩
 rintro i m ys H2 ⟨rfl,hi,rfl,hp2,sm⟩
 refine ⟨hp2,?_⟩
 have q := sm.tup hxs
 by_cases hlt : i < xs.length
 ·refine .inr ⟨⟨xs,xs[i],q,by simp [hlt]⟩,?_,fun x H3 y=>?_⟩
  ·rw [List.length_map]
   have := List.length_filter_le f (xs.take i)
   rw [List.length_take] at this
   omega
  ·obtain ⟨rfl,y⟩ := y
   have hc := y xs q
   refine ht i x hc _ _ sm fun H4 s4=>?_
   by_cases hf : f x = true
   ·rw [if_pos hf]
    refine he i x hc hf _ _ (sm.trans s4) fun H5 s5=>⟨(s4.trans s5) _ _ hp2,xs.length - (i + 1),by omega,rfl,hlt,?_,aqj,fun b o e=>?_⟩
    ·rw [List.take_add_one,hc]; simp [hf]
    ·rw [aqo (aqm e hp)]; exact (s4.trans s5) _ _ (sm _ _ e)
   ·rw [if_neg hf]
    refine ⟨xs.length - (i + 1),by omega,rfl,hlt,?_,s4 _ _ hp2,sm.trans s4⟩
    rw [List.take_add_one,hc]; simp [hf]
 ·have e : i = xs.length := by omega
  subst e
  refine .inl ⟨⟨xs,q,Nat.le_refl _⟩,hQ H2 sm ?_⟩
  rw [hp2,List.take_length]
end
end L2
namespace L2
open PySem PySem.Spec PyProof.Rows
section
variable {X : Cx} {pins : List (Addr × Obj)} {σ : St} {H1 : Hp} {s3 : Shared} {x x2 : Str} {fx : List Str} {fr : List Nat} {scope : Scope} {cl : List (Str × Addr)} {fp : List Addr}
theorem pqJ (I : Inv X pins σ H1 s3) (hkind : scope.kind = .function) (hcl : ∀ y c,cl.lookup y = some c -> X.env.cells.lookup y = some c)
  (F : Frees X (relabel scope X.env) cl fx fr) (hfx : ((relabel scope X.env).names.all fun p=>if (p.2 == .cell || p.2 == .free) then fx.contains p.1 else true) = true)
  (ffp : ∀ b ∈ fp,FpOk X pins H1 b) (flt : ∀ b ∈ fp,b < s3.heap.objs.size) : (compCx X (x :: x2 :: fx) scope cl s3 H1 fp).Ok where
 mod := I.ok.mod
 kind := hkind
 glob := I.ok.glob
 blt := I.ok.blt
 above := Nat.le_refl _
 inj := fun y z c h1 h2=>I.ok.inj y z c (hcl y c h1) (hcl z c h2)
 has := fun y h=>by
  have h : (relabel scope X.env).names.lookup y = some .cell \/ (relabel scope X.env).names.lookup y = some .free := h
  have key : y ∈ fx := by
   rcases h with h | h
   ·have q := List.all_eq_true.mp hfx _ (PySem.mem_of_lookup h)
    simpa using q
   ·have q := List.all_eq_true.mp hfx _ (PySem.mem_of_lookup h)
    simpa using q
  obtain ⟨k1,k2⟩ := F.mem y key
  obtain ⟨c,e⟩ := I.ok.has y (.inl k1)
  exact ⟨c,k2.trans e⟩
 cab := fun y c h=>by cases (show false = true from h)
 hd := I.ok.hd
 frames := I.ok.frames
 stk := .inl rfl
 exf := fun b hb=>⟨Nat.ne_of_lt (flt b hb),fun y c e=>(ffp b hb).2.2.2.2.1 y c (hcl y c e)⟩
 bs := I.bs
 bsz := Nat.le_trans I.ok.bsz I.sz
 noex := fun b o e hb=>by
  rcases (ffp b hb).2.2.2.1 with z | z
  ·exact I.ok.noex b o e z
  ·exact absurd (Nat.lt_of_lt_of_le (Heap.lt_size (I.ok.bs b o e).1) z) (Nat.lt_irrefl _)
 exfs := fun b hb z=>by
  rcases List.mem_cons.mp (I.stkSub b z) with q | q
  ·exact (ffp b hb).2.1 q
  ·exact (ffp b hb).2.2.1 q
 funs := I.stack
 frf := I.stkFree
theorem lqW (I : Inv X pins σ H1 s3) (hkind : scope.kind = .function) (hcl : ∀ y c,cl.lookup y = some c -> X.env.cells.lookup y = some c)
  (F : Frees X (relabel scope X.env) cl fx fr) (hfx : ((relabel scope X.env).names.all fun p=>if (p.2 == .cell || p.2 == .free) then fx.contains p.1 else true) = true)
  (ffp : ∀ b ∈ fp,FpOk X pins H1 b) (flt : ∀ b ∈ fp,b < s3.heap.objs.size) {h1 : Heap} {t : Nat} {m : Str -> Option Value} (hn : h1.Ns s3.heap.objs.size m)
  (keep : ∀ b u,s3.heap.get? b = some u -> h1.get? b = some u) : Inv (compCx X (x :: x2 :: fx) scope cl s3 H1 fp) [] (none :: none :: frV σ fr) H1 { s3 with heap := h1,toks := t } := by
 refine ⟨pqJ I hkind hcl F hfx ffp flt,rfl,I.bare,Un.kept keep,⟨m,hn,fun i y v e1 e2 e3=>?_⟩,fun y c e=>?_,I.hok.fresh (Nat.le_refl _),fun y c e=>I.freeC y c (hcl y c e),fun p hp=>absurd (show p ∈ ([] : List (Addr × Obj)) from hp) (by simp),I.hok.kept keep,?_⟩
 ·cases i with
  | zero=>simp at e2
  | succ j =>
   cases j with
   | zero=>simp at e2
   | succ j =>
    obtain ⟨i0,k1,k2,k3,k4,k5⟩ := F.at (σ := σ) j y v (by simpa [compCx] using e1) (by simpa using e2)
    obtain ⟨m0,hn0,hl0⟩ := I.loc
    obtain ⟨u,r,l⟩ := hl0 i0 y v k1 k2 (.inr (.inl k3))
    refine ⟨u,r,?_⟩
    rcases l with ⟨z,_⟩ | ⟨_,c,e,o,ho,hd⟩
    ·rw [k3] at z; cases z
    ·exact .inr ⟨.inl k4,c,k5.trans e,o,keep c o ho,hd⟩
 ·obtain ⟨v,o,ho,hd⟩ := I.cell y c (hcl y c e)
  exact ⟨v,o,keep c o ho,hd⟩
 ·show (none :: none :: frV σ fr).length = (x :: x2 :: fx).length
  simp [frV,F.len]
end
def CompI2 (K : PySem.W.Frag) (J : It) (p : Addr) (fv : St) (tt : TT) (te : TE) (Q : VK) (H1 : Hp) : Prop :=
 ∃ W : Nat -> Nat -> List V -> Hp -> Prop,(∃ m,W 0 m [] (upd H1 p (.lst []))) /\ ∀ i m ys H2,W i m ys H2 -> H2 p = some (.lst ys) /\
  ((J.stop i H2 /\ Q (.ref p) H2) \/ (J.go i H2 /\ ys.length < sizeLine /\ ∀ z H3,J.yld i H2 z H3 -> ∃ a x y,z = .ref a /\ SqT K H3 a [x,y] /\ tt (some x :: some y :: fv) H3 fun b H4 =>
   if b = true then te (some x :: some y :: fv) H4 fun y H5=>H5 p = some (.lst ys) /\ ∃ m',m' < m /\ W (i + 1) m' (ys ++ [y]) (upd H5 p (.lst (ys ++ [y])))
   else ∃ m',m' < m /\ W (i + 1) m' ys H4))
def tComp2 (K : PySem.W.Frag) (wi : TI) (fr : List Nat) (tt : TT) (te : TE) : TE := fun σ H Q=>wi σ H fun J H1=>∀ p,H1 p = none -> CompI2 K J p (frV σ fr) tt te Q H1
section
variable {X : Cx} {elt iter : Expr} {x x2 : Str} {px px2 ptx pos : Pos} {kx : Nat} {ifs : List Expr} {scope : Scope} {cl : List (Str × Addr)} {fx : List Str} {fr : List Nat} {wi : TI} {tt : TT} {te : TE}
theorem iqj {pins : List (Addr × Obj)} {σ : St} {H3 : Hp} {s3 : Shared} {it p : Addr} {fp : List Addr} {tn : Nat -> Heap -> Prop} {J : It} {Q : VK} {W : Nat -> Nat -> List V -> Hp -> Prop} {m0 t : Nat} {h₁ : Heap} {m : Str -> Option Value} {RR : Result -> Shared -> Prop}
  (hc : X.calm = true) (hkind : scope.kind = .function) (hx : scope.names.lookup x = some .local) (hx2 : scope.names.lookup x2 = some .local) (hnd : (x :: x2 :: fx).Nodup)
  (hcl : ∀ y c,cl.lookup y = some c -> X.env.cells.lookup y = some c) (F : Frees X (relabel scope X.env) cl fx fr)
  (hfx : ((relabel scope X.env).names.all fun p=>if (p.2 == .cell || p.2 == .free) then fx.contains p.1 else true) = true)
  (ht : ∀ s H fp,PF (compCx X (x :: x2 :: fx) scope cl s H fp) ifs tt) (he : ∀ s H fp,PE (compCx X (x :: x2 :: fx) scope cl s H fp) elt te)
  (I3 : Inv X pins σ H3 s3) (T : Turn X.prog X.w X.K (.Tuple [.Name x px,.Name x2 px2] kx ptx) J fp it tn) (st3 : tn 0 s3.heap) (ffp : ∀ b ∈ fp,FpOk X pins H3 b) (flt3 : ∀ b ∈ fp,b < s3.heap.objs.size)
  (w0 : W 0 m0 [] H3) (turn : ∀ i m ys H2,W i m ys H2 -> H2 p = some (.lst ys) /\
   ((J.stop i H2 /\ Q (.ref p) H2) \/ (J.go i H2 /\ ys.length < sizeLine /\ ∀ z H3,J.yld i H2 z H3 -> ∃ a x y,z = .ref a /\ SqT X.K H3 a [x,y] /\ tt (some x :: some y :: frV σ fr) H3 fun b H4 =>
    if b = true then te (some x :: some y :: frV σ fr) H4 fun y H5=>H5 p = some (.lst ys) /\ ∃ m',m' < m /\ W (i + 1) m' (ys ++ [y]) (upd H5 p (.lst (ys ++ [y])))
    else ∃ m',m' < m /\ W (i + 1) m' ys H4)))
  (hns : h₁.Ns s3.heap.objs.size m) (keep1 : ∀ b u,s3.heap.get? b = some u -> h₁.get? b = some u)
  (fin : ∀ s6 H5 o o2,Inv (compCx X (x :: x2 :: fx) scope cl s3 H3 fp) [] (o :: o2 :: frV σ fr) H5 s6 -> Q (.ref p) H5 -> RR (.ok .next) s6) :
  codeAny (model X.prog X.w) X.A (.compStart (.ListComp elt [⟨.Tuple [.Name x px,.Name x2 px2] kx ptx,iter,ifs,0⟩] scope pos) 0 (.ref it) (.ref p) (compEnvC scope cl s3.heap.objs.size X.env))
   RR { s3 with heap := h₁,toks := t } := by
 have I4 := lqW (x := x) (x2 := x2) (t := t) I3 hkind hcl F hfx ffp flt3 hns keep1
 have st4 : tn 0 h₁ := T.keep _ _ _ st3 fun b hb o e=>keep1 b o e
 have fp0 : ∀ b ∈ fp,H3 b = none := fun b hb=>(ffp b hb).1
 have hcal : (compCx X (x :: x2 :: fx) scope cl s3 H3 fp).calm = true := hc
 have stat : ∀ {H' : Hp},(∀ b ∈ fp,H' b = none) -> ∀ b ∈ fp,FpOk (compCx X (x :: x2 :: fx) scope cl s3 H3 fp) [] H' b := fun {H'} hn b hb=>by
  obtain ⟨f0,f1,f2,f3,f4,f5⟩ := ffp b hb
  exact ⟨hn b hb,Nat.ne_of_lt (flt3 b hb),I4.ok.exfs b hb,.inl hb,fun y c e=>f4 y c (hcl y c e),fun q hq=>absurd (show q ∈ ([] : List (Addr × Obj)) from hq) (by simp)⟩
 have hxl : (relabel scope X.env).names.lookup x = some .local := lookup_relabel_local hx
 have hxl2 : (relabel scope X.env).names.lookup x2 = some .local := lookup_relabel_local hx2
 have pg : PG (compCx X (x :: x2 :: fx) scope cl s3 H3 fp) (.Tuple [.Name x px,.Name x2 px2] kx ptx) (gTup X.K 2 (gCons (gName 0) (gCons (gName 1) gNil))) := qqi hcal (aq0 (aqF (i := 0) hnd rfl (.inl hxl) (.inr hxl)) (aq0 (aqF (i := 1) hnd rfl (.inl hxl2) (.inr hxl2)) fqB))
 have loop : codeAny (model X.prog X.w) X.A (.compLoop (.ListComp elt [⟨.Tuple [.Name x px,.Name x2 px2] kx ptx,iter,ifs,0⟩] scope pos) 0 (.ref it) (.ref p) (compEnvC scope cl s3.heap.objs.size X.env))
    RR { s3 with heap := h₁,toks := t } := by
  refine gq4 (fun n s' => ∃ i ys H' o o2,Inv (compCx X (x :: x2 :: fx) scope cl s3 H3 fp) [] (o :: o2 :: frV σ fr) H' s' /\ tn i s'.heap /\ (∀ b ∈ fp,H' b = none) /\ W i n ys H') ?_ m0 ⟨0,[],_,none,none,I4,st4,fp0,w0⟩
  rintro n s5 ⟨i,ys,H5,o,o2,I5,st5,fr5,w5⟩
  obtain ⟨hp5,alt⟩ := turn i n ys H5 w5
  rcases alt with ⟨stop,qn⟩ | ⟨go,hlen,step⟩
  ·refine thn (T.done (compCx X (x :: x2 :: fx) scope cl s3 H3 fp) rfl rfl rfl hcal i [] s5 (o :: o2 :: frV σ fr) H5 _ I5 (stat fr5) st5 stop) fun r s6 W' => ?_
   obtain ⟨hr,I6⟩ := W'
   subst hr
   exact fin s6 H5 o o2 I6 qn
  ·refine thn (T.item (compCx X (x :: x2 :: fx) scope cl s3 H3 fp) rfl rfl rfl hcal i [] s5 (o :: o2 :: frV σ fr) H5 _ I5 (stat fr5) st5 go) fun r s6 W' => ?_
   obtain ⟨u,hr,h6⟩ := W'
   subst hr
   refine thn h6 fun _ s7 W' => ?_
   obtain ⟨y7,H7,I7,r7,yl7,st7,fr7⟩ := W'
   have I7' := I7.pinned (stat fr7) (T.obj _ _ st7)
   have back : ∀ {σ' : St} {H' : Hp} {s' : Shared},Inv (compCx X (x :: x2 :: fx) scope cl s3 H3 fp) ([] ++ pinsAt fp s7.heap) σ' H' s' -> tn (i + 1) s'.heap /\ ∀ b ∈ fp,H' b = none := fun {σ' H' s'} I' => by
    refine ⟨T.keep _ _ _ st7 fun b hb o e=>(I'.pin (b,o) (List.mem_append_right _ (List.mem_append_right _ (cqP hb e)))).1,fun b hb=>?_⟩
    obtain ⟨o,e,d⟩ := T.obj _ _ st7 b hb
    exact (I'.pin (b,o) (List.mem_append_right _ (List.mem_append_right _ (cqP hb e)))).2.1
   obtain ⟨a7,z1,z2,e7,q7,step7⟩ := step y7 _ yl7
   subst e7
   refine thn (pg _ s7 _ H7 (.ref a7) u (fun σ' H' => σ' = some z1 :: some z2 :: frV σ fr /\ H' = H7) I7' r7 ⟨a7,[z1,z2],rfl,q7,rfl,z1,[z2],rfl,z2,[],rfl,rfl,rfl,rfl⟩) fun _ s8 W' => ?_
   obtain ⟨σ8,H8,I8,e8,e8'⟩ := W'
   subst e8 e8'
   refine thn (ht s3 H3 fp _ s8 _ _ _ I8 step7) fun b s9 W' => ?_
   obtain ⟨H9,I9,q9⟩ := W'
   cases b with
   | false =>
    rw [if_neg Bool.false_ne_true] at q9 ⊢
    obtain ⟨m',hm,w9⟩ := q9
    exact ⟨m',hm,i + 1,ys,H9,some z1,some z2,I9.unpinned,(back I9).1,(back I9).2,w9⟩
   | true =>
    rw [if_pos rfl] at q9 ⊢
    refine thn (he s3 H3 fp _ s9 _ H9 _ I9 q9) fun u10 s10 W' => ?_
    obtain ⟨y10,H10,I10,r10,hp10,m',hm,w10⟩ := W'
    refine thn (aq2 _ s10 _ H10 (.ref p) [y10] (.ref p) [u10] (fun _ H' => H' = upd H10 p (.lst (ys ++ [y10]))) I10 rfl (.cons r10 .nil) ⟨p,ys,y10,rfl,rfl,hp10,hlen,rfl⟩) fun _ s11 W' => ?_
    obtain ⟨_,H11,I11,_,e11⟩ := W'
    subst e11
    exact ⟨m',hm,i + 1,ys ++ [y10],_,some z1,some z2,I11.unpinned,(back I11).1,(back I11).2,w10⟩
 exact codeAny_compStart_list loop (T.self _ 0 _ _ _ st4 loop)
theorem pqg (hc : X.calm = true) (hclos : closureFor scope X.env = pure cl) (hcell : ∀ y ∈ scope.names,y.2 ≠ .cell) (hkind : scope.kind = .function)
  (hnames : ∀ y ∈ scope.names,y.2 = .local -> scope.names.lookup y.1 = some .local) (hx : scope.names.lookup x = some .local) (hx2 : scope.names.lookup x2 = some .local) (hnd : (x :: x2 :: fx).Nodup)
  (hk : (cl.all fun q=>fx.contains q.1) = true) (F : Frees X (relabel scope X.env) cl fx fr)
  (hfx : ((relabel scope X.env).names.all fun p=>if (p.2 == .cell || p.2 == .free) then fx.contains p.1 else true) = true)
  (hi : PI X (.Tuple [.Name x px,.Name x2 px2] kx ptx) iter wi) (ht : ∀ s H fp,PF (compCx X (x :: x2 :: fx) scope cl s H fp) ifs tt) (he : ∀ s H fp,PE (compCx X (x :: x2 :: fx) scope cl s H fp) elt te)
  (hs : ∀ x,foldedSetIterable iter X.env x = pure x := by intro _; rfl) :
  PE X (.ListComp elt [⟨.Tuple [.Name x px,.Name x2 px2] kx ptx,iter,ifs,0⟩] scope pos) (tComp2 X.K wi fr tt te) := by
 intro pins s σ H Q I h
 have hcl : ∀ y c,cl.lookup y = some c -> X.env.cells.lookup y = some c := fun y c e=>by
  have q := List.all_eq_true.mp hk _ (PySem.mem_of_lookup e)
  rw [<- (F.mem y (by simpa using q)).2]
  exact e
 rw [eval_ListComp]
 refine wpAny_comprehension_free (use := none) rfl hs hclos hkind hnames ?_
 refine thn (hi pins s σ H _ I h) fun v s1 h1=>thn h1 fun itv s2 h2=>?_
 obtain ⟨it,fp,tn,J,H2,e,I2,T,st2,f2,q2⟩ := h2
 subst e
 have hp0 : H2 s2.heap.objs.size = none := I2.hok.fresh (Nat.le_refl _)
 obtain ⟨W,⟨m0,w0⟩,turn⟩ := q2 _ hp0
 have flt : ∀ b ∈ fp,b < s2.heap.objs.size := fun b hb=>by
  obtain ⟨o,e,_⟩ := T.obj _ _ st2 b hb
  exact Heap.lt_size e
 refine wpAny_newObj_type (wpAny_newFunctionEnv hcell (by intro y hy; simp at hy) (fun h₁ hns₁ hsb₁=>?_) hkind)
 dsimp only at hns₁ hsb₁ ⊢
 have hlay : ∀ b u,s2.heap.get? b = some u -> (s2.heap.push { cls := .type "list", dict := none,data := .seq ([] : List Value).toArray }).get? b = some u := fun b u e=>Heap.get?_push_of_some _ e
 have hnew : (s2.heap.push { cls := .type "list", dict := none,data := .seq ([] : List Value).toArray }).get? s2.heap.objs.size = some { cls := .type "list", dict := none,data := .seq ([] : List Value).toArray } := Heap.get?_push_size _ rfl
 have hsz : (s2.heap.push { cls := .type "list", dict := none,data := .seq ([] : List Value).toArray }).objs.size = s2.heap.objs.size + 1 := Heap.size_push _ _
 generalize hHH : s2.heap.push { cls := .type "list", dict := none,data := .seq ([] : List Value).toArray } = HH at hns₁ hsb₁ hlay hnew hsz ⊢
 have I3 : Inv X pins σ (upd H2 s2.heap.objs.size (.lst [])) { s2 with heap := HH,toks := s2.toks } :=
  I2.laid (t' := s2.toks) (o := .lst []) hlay (Nat.le_refl _) ⟨Nat.zero_le _,[],0,.nil,hnew⟩
 have ffp : ∀ b ∈ fp,FpOk X pins (upd H2 s2.heap.objs.size (.lst [])) b := fun b hb=>by
  obtain ⟨f0,fr'⟩ := f2 b hb
  exact ⟨by rw [aqo (Nat.ne_of_lt (flt b hb))]; exact f0,fr'⟩
 have keep1 : ∀ b u,HH.get? b = some u -> h₁.get? b = some u := fun b u e=>hsb₁.extBut b u (Nat.ne_of_lt (Heap.lt_size e)) (Heap.get?_push_of_some _ e)
 exact iqj (s3 := { s2 with heap := HH,toks := s2.toks }) hc hkind hx hx2 hnd hcl F hfx ht he I3 T (T.keep _ _ _ st2 fun b hb o e=>hlay b o e) ffp (fun b hb=>by show b < HH.objs.size; rw [hsz]; exact Nat.lt_succ_of_lt (flt b hb)) w0 turn hns₁ keep1 fun s6 H5 o o2 I6 qn=>by
  obtain ⟨m,hn6,_⟩ := id I6.loc
  exact ⟨m,hn6,fun h' sb=>⟨.ref _,H5,fqI I3 I6 ffp sb,rfl,qn⟩⟩
theorem oqi {K : PySem.W.Frag} (h : X.K = K) (hc : X.calm = true) (hclos : closureFor scope X.env = pure cl) (hcell : ∀ y ∈ scope.names,y.2 ≠ .cell) (hkind : scope.kind = .function)
  (hnames : ∀ y ∈ scope.names,y.2 = .local -> scope.names.lookup y.1 = some .local) (hx : scope.names.lookup x = some .local) (hx2 : scope.names.lookup x2 = some .local) (hnd : (x :: x2 :: fx).Nodup)
  (hk : (cl.all fun q=>fx.contains q.1) = true) (F : Frees X (relabel scope X.env) cl fx fr)
  (hfx : ((relabel scope X.env).names.all fun p=>if (p.2 == .cell || p.2 == .free) then fx.contains p.1 else true) = true)
  (hi : PI X (.Tuple [.Name x px,.Name x2 px2] kx ptx) iter wi) (ht : ∀ s H fp,PF (compCx X (x :: x2 :: fx) scope cl s H fp) ifs tt) (he : ∀ s H fp,PE (compCx X (x :: x2 :: fx) scope cl s H fp) elt te)
  (hs : ∀ x,foldedSetIterable iter X.env x = pure x := by intro _; rfl) :
  PE X (.ListComp elt [⟨.Tuple [.Name x px,.Name x2 px2] kx ptx,iter,ifs,0⟩] scope pos) (tComp2 K wi fr tt te) := by
 subst h; exact pqg hc hclos hcell hkind hnames hx hx2 hnd hk F hfx hi ht he hs
theorem mqd {K : PySem.W.Frag} {i : Nat} {y : Str} {py spos : Pos} (hN : X.N.Nodup) (hiN : X.N[i]? = some y) (hy : X.env.scope.names.lookup y = some .local)
  (h : X.K = K) (hc : X.calm = true) (hclos : closureFor scope X.env = pure cl) (hcell : ∀ y ∈ scope.names,y.2 ≠ .cell) (hkind : scope.kind = .function)
  (hnames : ∀ y ∈ scope.names,y.2 = .local -> scope.names.lookup y.1 = some .local) (hx : scope.names.lookup x = some .local) (hx2 : scope.names.lookup x2 = some .local) (hnd : (x :: x2 :: fx).Nodup)
  (hk : (cl.all fun q=>fx.contains q.1) = true) (F : Frees X (relabel scope X.env) cl fx fr)
  (hfx : ((relabel scope X.env).names.all fun p=>if (p.2 == .cell || p.2 == .free) then fx.contains p.1 else true) = true)
  (hi : PI X (.Tuple [.Name x px,.Name x2 px2] kx ptx) iter wi) (ht : ∀ s H fp,PF (compCx X (x :: x2 :: fx) scope cl s H fp) ifs tt) (he : ∀ s H fp,PE (compCx X (x :: x2 :: fx) scope cl s H fp) elt te)
  (hs : ∀ x,foldedSetIterable iter X.env x = pure x := by intro _; rfl) (hsw : swapsWith (.ListComp elt [⟨.Tuple [.Name x px,.Name x2 px2] kx ptx,iter,ifs,0⟩] scope pos) (some (.Name y py)) spos.line X.env = pure true := by rfl) :
  PS X (.Assign [.Name y py] (.ListComp elt [⟨.Tuple [.Name x px,.Name x2 px2] kx ptx,iter,ifs,0⟩] scope pos) spos) (tAsg (tComp2 K wi fr tt te) (gName i)) := by
 subst h
 intro pins s σ H D I h
 have hcl : ∀ y c,cl.lookup y = some c -> X.env.cells.lookup y = some c := fun y c e=>by
  have q := List.all_eq_true.mp hk _ (PySem.mem_of_lookup e)
  rw [<- (F.mem y (by simpa using q)).2]
  exact e
 rw [exec_Assign_Name_used _ _ _ _ hsw]
 refine wpAny_bind (wpAny_standAt (wpAny_bind ?_))
 show wpAny _ X.A (do let _ <- comprehension (.ListComp elt [⟨.Tuple [.Name x px,.Name x2 px2] kx ptx,iter,ifs,0⟩] scope pos) scope X.env _ (newList []) false (eval iter X.env) (some (assign (.Name y py) X.env))) _ _ s
 refine wpAny_bind (wpAny_mono (wpAny_comprehension_free (use := some (assign (.Name y py) X.env)) (Q := fun _ s' => SP X pins D .next s') rfl hs hclos hkind hnames ?_) (fun _ s' hq=>wpAny_pure (wpAny_pure hq)) fun _ _ e=>e)
 refine thn (hi pins s σ H _ I h) fun v s1 h1=>thn h1 fun itv s2 h2=>?_
 obtain ⟨it,fp,tn,J,H2,e,I2,T,st2,f2,q2⟩ := h2
 subst e
 have hp0 : H2 s2.heap.objs.size = none := I2.hok.fresh (Nat.le_refl _)
 obtain ⟨W,⟨m0,w0⟩,turn⟩ := q2 _ hp0
 have flt : ∀ b ∈ fp,b < s2.heap.objs.size := fun b hb=>by
  obtain ⟨o,e,_⟩ := T.obj _ _ st2 b hb
  exact Heap.lt_size e
 refine wpAny_newObj_type (wpAny_newFunctionEnv hcell (by intro y hy; simp at hy) (fun h₁ hns₁ hsb₁=>?_) hkind)
 dsimp only at hns₁ hsb₁ ⊢
 have hlay : ∀ b u,s2.heap.get? b = some u -> (s2.heap.push { cls := .type "list", dict := none,data := .seq ([] : List Value).toArray }).get? b = some u := fun b u e=>Heap.get?_push_of_some _ e
 have hnew : (s2.heap.push { cls := .type "list", dict := none,data := .seq ([] : List Value).toArray }).get? s2.heap.objs.size = some { cls := .type "list", dict := none,data := .seq ([] : List Value).toArray } := Heap.get?_push_size _ rfl
 have hsz : (s2.heap.push { cls := .type "list", dict := none,data := .seq ([] : List Value).toArray }).objs.size = s2.heap.objs.size + 1 := Heap.size_push _ _
 generalize hHH : s2.heap.push { cls := .type "list", dict := none,data := .seq ([] : List Value).toArray } = HH at hns₁ hsb₁ hlay hnew hsz ⊢
 have I3 : Inv X pins σ (upd H2 s2.heap.objs.size (.lst [])) { s2 with heap := HH,toks := s2.toks } :=
  I2.laid (t' := s2.toks) (o := .lst []) hlay (Nat.le_refl _) ⟨Nat.zero_le _,[],0,.nil,hnew⟩
 have ffp : ∀ b ∈ fp,FpOk X pins (upd H2 s2.heap.objs.size (.lst [])) b := fun b hb=>by
  obtain ⟨f0,fr'⟩ := f2 b hb
  exact ⟨by rw [aqo (Nat.ne_of_lt (flt b hb))]; exact f0,fr'⟩
 have keep1 : ∀ b u,HH.get? b = some u -> h₁.get? b = some u := fun b u e=>hsb₁.extBut b u (Nat.ne_of_lt (Heap.lt_size e)) (Heap.get?_push_of_some _ e)
 exact iqj (Q := fun x H1=>gName i x σ H1 D.nx) (s3 := { s2 with heap := HH,toks := s2.toks }) hc hkind hx hx2 hnd hcl F hfx ht he I3 T (T.keep _ _ _ st2 fun b hb o e=>hlay b o e) ffp (fun b hb=>by show b < HH.objs.size; rw [hsz]; exact Nat.lt_succ_of_lt (flt b hb)) w0 turn hns₁ keep1 fun s6 H5 o o2 I6 qn=>by
  have nC : H5 HH.objs.size = none := I6.free
  have I7 : Inv X pins σ H5 s6 := fqI (h' := s6.heap) I3 I6 ffp ⟨rfl,fun _ _=>rfl⟩
  obtain ⟨f0,f1,f2,f3,f4,f5⟩ := I3.fpOk (H' := H5) (b := HH.objs.size) (Nat.le_refl _) nC
  obtain ⟨m,hn6,_⟩ := id I6.loc
  show wpAny _ X.A (assign (.Name y py) X.env (.ref _)) _ _ s6
  refine wpAny_assign_Name (hqR I7 hN hiN (.inl hy) (v := .ref _) rfl (fun s8 I8 sbx=>?_) (.inr hy))
  obtain ⟨a,sb,ha⟩ := sbx
  have hne : HH.objs.size ≠ a := by
   rcases ha with rfl | ha
   ·exact f1
   ·exact fun z=>f4 y a ha z.symm
  refine ⟨m,hn6.sameBut sb hne,fun h' sb' => ?_⟩
  exact ⟨_,H5,I8.turned (t' := s8.toks) (it := HH.objs.size) (fun b o hb e=>sb'.extBut b o hb e) f0 f1 f3 f4 f5,qn⟩
end
section
variable {p : Addr} {fv : St} {te : TE} {Q : VK} {H1 : Hp} {K : PySem.W.Frag}
theorem nq1 {tl : TE} {tt : TT} {fr : List Nat} {σ : St} {H : Hp} : (tComp2 K (iTup K tl) fr tt te σ H Q) = (tl σ H fun x H1=>∃ a,x = .ref a /\ (∃ xs,SqT K H1 a xs) /\ ∀ p,H1 p = none -> CompI2 K (Itt K a) p (frV σ fr) tt te Q H1) := rfl
end
section
variable {X : Cx}
def rFind : V -> List V -> Hp -> VK -> Prop := fun x vs H Q=>match x,vs with
 | .str z,[.str y] => Q (.int (Txt.find z y)) H
 | _,_=>False
theorem rqg {z y : Str} {H : Hp} {Q : VK} : (rFind (.str z) [.str y] H Q) = (Q (.int (Txt.find z y)) H) := rfl
end
end L2
namespace Wm
open PySem L2
theorem iqg (s : Stp) (L : List Stp) : inV (sV s) (L.map sV) = decide (s ∈ L) := by
 have e : ∀ a : Stp,eqV (sV a) (sV s) = decide (s = a) := fun a=>by
  show ((⟨a.toArray⟩ : Str) == ⟨s.toArray⟩) = decide (s = a)
  rw [Bool.eq_iff_iff,beq_iff_eq,decide_eq_true_eq,bq0]
  exact ⟨Eq.symm,Eq.symm⟩
 unfold inV
 rw [Bool.eq_iff_iff,decide_eq_true_eq,List.any_eq_true]
 constructor
 ·rintro ⟨x,hx,h⟩
  obtain ⟨a,ha,rfl⟩ := List.mem_map.mp hx
  rw [e,decide_eq_true_eq] at h
  rw [h]; exact ha
 ·intro h
  exact ⟨sV s,List.mem_map.mpr ⟨s,h,rfl⟩,by rw [e]; simp⟩
end Wm
namespace Wm
end Wm
namespace L2
open PySem
theorem sqY {l : Addr} {H : Hp} {Q : VK} {i : Int} : rPopAt (.ref l) [.int i] H Q ↔ ∃ xs k y,H l = some (.lst xs) /\ -(2 ^ 63) <= i /\ i < 2 ^ 63 /\ seqIndex? i xs.length = some k /\ xs[k]? = some y /\ Q y (upd H l (.lst (xs.eraseIdx k))) :=
 ⟨fun ⟨_,xs,_,k,y,h1,h2,h⟩=>by cases h1; cases h2; exact ⟨xs,k,y,h⟩,fun ⟨xs,k,y,h⟩=>⟨_,xs,_,k,y,rfl,rfl,h⟩⟩
end L2
namespace L2
open PySem PySem.Spec PySem.W PyProof.Rows
abbrev vErr : List Value := [.type "ValueError", .type "Exception", .type "BaseException", .type "object"]
abbrev vNew : String := "ValueError.__new__"
def tRaise (E : XK) (C : Addr) : TS := fun _ _ H=>E (.ref C) none H
theorem mqt {E : XK} {C : Addr} {D : Ends} {σ : St} {H : Hp} : (tRaise E C D σ H) = (E (.ref C) none H) := rfl
theorem ObjOk.ex {P : Program} {w : World} {H : Hp} {h : Heap} {a : Addr} {o : HO} (x : ObjOk P w H h a o) : ∃ u,h.get? a = some u := by
 cases o with
 | lst xs=>obtain ⟨_,_,_,_,e⟩ := x; exact ⟨_,e⟩
 | tup xs=>obtain ⟨_,_,_,_,e,_⟩ := x; exact ⟨_,e⟩
 | dK kvs=>obtain ⟨_,_,_,_,_,_,_,e,_⟩ := x; exact ⟨_,e⟩
 | dT kvs=>obtain ⟨_,_,_,_,_,_,_,e,_⟩ := x; exact ⟨_,e⟩
 | set S n=>obtain ⟨_,_,_,_,e,_⟩ := x; exact ⟨_,e⟩
 | ins C dx fs=>obtain ⟨_,_,_,e,_⟩ := x; exact ⟨_,e⟩
 | own y=>exact x
 | xd fs=>obtain ⟨_,⟨_,_,_,e,_⟩,_⟩ := x; exact ⟨_,e⟩
 | rng lo hi=>obtain ⟨_,_,_,e⟩ := x; exact ⟨_,e⟩
 | frz ob u=>exact ⟨_,x.1⟩
 | tbl ps=>exact ⟨_,x⟩
 | met f y=>exact ⟨_,x⟩
 | ext φ=>exact x.2.1
structure Flown (P : Program) (w : World) (base : Heap) (outer : List Env) (H : Hp) (s : Shared) (a t C : Addr) (B : Heap) (H' : Hp) (s' : Shared) : Prop where
 os : s'.os = s.os
 bare : AllBare s'.gens
 st : base.StaysIn B
 fly : Heap.FlyingW B outer a (.ref C) (.ref t) s'.heap
 hok : HOk P w H' B
 un : Un (frs outer) [] H H' s.heap s'.heap
 kb : ∀ b o,s.heap.get? b = some o -> H b = none -> b ∉ frs outer -> B.get? b = some o
 thB : ∀ b o,s.heap.get? b = some o -> b ∉ frs outer -> ∃ o',B.get? b = some o'
def CXE (P : Program) (w : World) (base : Heap) : CXT := fun outer H s E e s' => ∃ (a t C : Addr) (B : Heap) (H' : Hp),e = .ref a /\ E (.ref C) none H' /\ Flown P w base outer H s a t C B H' s'
theorem fqQ {env : Env} {L : Addr} {outer : List Env} (hf : env.frame = some L) {b : Addr} : b ∈ frs (env :: outer) ↔ b = L \/ b ∈ frs outer := by
 unfold frs
 rw [List.filterMap_cons,hf]
 exact List.mem_cons
section
variable {P : Program} {w : World} {K : Frag} {mg : Str -> Option Value} {base : Heap} {N : List Str} {qual : Str} {scope : Scope} {f : Addr} {cd : Value} {A : Around} {outer : List Env} {s : Shared} {H : Hp} {E : XK}
theorem nq8 : Passes (CXE P w base) (cxOf (CXE P w base) P w K mg base N qual scope f cd A outer s H E) E := by
 intro pins σ H1 s1 e s2 I hq
 obtain ⟨a,t,C,B,H2,rfl,hE,W⟩ := hq
 have hf : (envOfC qual scope s.heap.objs.size f cd).frame = some s.heap.objs.size := rfl
 have ib : Un (frs outer) [] H H1 s.heap s1.heap := I.base
 have W : Flown P w base (envOfC qual scope s.heap.objs.size f cd :: outer) H1 s1 a t C B H2 s2 := W
 have ne : ∀ b o,s.heap.get? b = some o -> b ∉ frs outer -> b ∉ frs (envOfC qual scope s.heap.objs.size f cd :: outer) := fun b o q n z=>by
  rcases (fqQ hf).mp z with z | z
  ·exact absurd (Heap.lt_size q) (by rw [z]; exact Nat.lt_irrefl _)
  ·exact n z
 show wpAny (model P w) (A.deeper (envOfC qual scope s.heap.objs.size f cd)) (leaving (envOfC qual scope s.heap.objs.size f cd) (.ref a)) _ _ _
 refine wpAny_leaves_onW I.ok.frames hf W.fly fun h3 x1 x2=>?_
 have keepB : ∀ b o,s.heap.get? b = some o -> H b = none -> b ∉ frs outer -> B.get? b = some o := fun b o q n nf =>
  W.kb b o (ib.keep b o q n nf (by simp)) (ib.free b o q n (by simp)) (ne b o q nf)
 have thB : ∀ b o,s.heap.get? b = some o -> b ∉ frs outer -> ∃ o',B.get? b = some o' := fun b o q nf=>by
  obtain ⟨o',z⟩ := ib.there b o q (by simp)
  exact W.thB b o' z (ne b o q nf)
 have slotF : ∀ b,b ∈ frs outer -> ∀ o,s2.heap.get? b = some o -> ∃ sl,h3.get? b = some { o with slots := sl } := fun b hb o q=>by
  obtain ⟨_,o2,q2,nd⟩ := W.fly.2.2.1.mem ((fqQ hf).mpr (.inr hb))
  rw [q] at q2
  cases q2
  exact x2 b o q nd
 refine ⟨a,t,C,B,H2,rfl,hE,⟨W.os.trans I.os,W.bare,W.st,x1,W.hok,⟨fun b o q n nf _=>x1.1 b o (keepB b o q n nf),fun b o q n hb _=>?_,fun b o q n _=>?_,fun b o q _=>?_,fun b xs q=>W.un.tups b xs (ib.tups b xs q),fun b o u q=>W.un.frzs b o u (ib.frzs b o u q),fun b ps q=>?_⟩,keepB,thB⟩⟩
 ·obtain ⟨sl,z⟩ := ib.slot b o q n hb (by simp)
  obtain ⟨sl1,z1⟩ := W.un.slot b _ z (ib.free b o q n (by simp)) ((fqQ hf).mpr (.inr hb)) (by simp)
  obtain ⟨sl',z'⟩ := slotF b hb _ z1
  exact ⟨sl',z'⟩
 ·obtain ⟨o',z⟩ := ib.there b o q (by simp)
  exact W.un.free b o' z (ib.free b o q n (by simp)) (by simp)
 ·by_cases hb : b ∈ frs outer
  ·obtain ⟨o',z⟩ := ib.there b o q (by simp)
   obtain ⟨o'',z1⟩ := W.un.there b o' z (by simp)
   obtain ⟨sl',z'⟩ := slotF b hb _ z1
   exact ⟨_,z'⟩
  ·obtain ⟨o',z⟩ := thB b o q hb
   exact ⟨o',x1.1 b o' z⟩
 ·obtain ⟨m1,z⟩ := ib.tbls b ps q
  obtain ⟨m2,z2⟩ := W.un.tbls b _ z
  exact ⟨m1 ++ m2,by rw [z2,Array.append_assoc]⟩
end
def exO (a C : Addr) : HO := .ext fun h=>∃ o,h.get? a = some o /\ o.cls = .ref C
abbrev Cx.handling (X : Cx) (e : Value) : Cx := { X with A := X.A.mark (some e),calm := false,xe := fun _ _=>False }
section
variable {X : Cx} {pins : List (Addr × Obj)} {σ : St} {H H1 H2 : Hp} {s s1 s2 : Shared}
theorem Inv.handling (e : Value) (I : Inv X pins σ H s) : Inv (X.handling e) pins σ H s :=
 ⟨⟨I.ok.mod,I.ok.kind,I.ok.glob,I.ok.blt,I.ok.above,I.ok.inj,I.ok.has,I.ok.cab,(fun z=>by cases z),I.ok.frames,I.ok.stk,I.ok.exf,I.ok.bs,I.ok.bsz,I.ok.noex,I.ok.exfs,I.ok.funs,I.ok.frf⟩,I.os,I.bare,I.base,I.loc,I.cell,I.free,I.freeC,I.pin,I.hok,I.len⟩
theorem Inv.handled {e : Value} (J : X.Ok) (I : Inv (X.handling e) pins σ H s) : Inv X pins σ H s := ⟨J,I.os,I.bare,I.base,I.loc,I.cell,I.free,I.freeC,I.pin,I.hok,I.len⟩
theorem Flown.new {P : Program} {w : World} {base B h5 : Heap} {outer : List Env} {a t C : Addr} {a0 : Value} (W : Flown P w base outer H1 s1 a t C B H2 s2) : H2 a = none := by
 cases q : H2 a with
 | none=>rfl
 | some u =>
  obtain ⟨o,z⟩ := (W.hok a u q).ex
  rw [W.fly.2.1] at z
  cases z
theorem Inv.caught {a t C : Addr} {B h5 : Heap} {a0 : Value} (I : Inv X pins σ H1 s1) (W : Flown X.prog X.w X.base X.stack H1 s1 a t C B H2 s2) (f5 : Heap.FlyingW B X.stack a (.ref C) a0 h5) (sm : s2.heap.UpToSlots h5) :
  Inv X pins σ (upd H2 a (exO a C)) { s2 with heap := h5 } := by
 have hn : H2 a = none := W.new (h5 := h5) (a0 := a0)
 obtain ⟨oe,vs,T,oT,ts,he,_,hd,_⟩ := W.fly.2.2.2
 have fr : ∀ b ∈ frs X.stack,∀ o,s2.heap.get? b = some o -> b ≠ a /\ ∃ sl,h5.get? b = some { o with slots := sl } := fun b hb o q=>by
  obtain ⟨_,o2,q2,nd⟩ := W.fly.2.2.1.mem hb
  rw [q] at q2
  cases q2
  refine ⟨fun z=>?_,sm b o q nd⟩
  rw [z,he] at q
  cases q
  exact nd _ hd
 have na : ∀ b o,s1.heap.get? b = some o -> b ≠ a := fun b o q=>by
  by_cases hb : b ∈ frs X.stack
  ·obtain ⟨o',z⟩ := W.un.there b o q (by simp)
   exact (fr b hb o' z).1
  ·obtain ⟨o',z⟩ := W.thB b o q hb
   rintro rfl
   rw [W.fly.2.1] at z
   cases z
 refine I.call' (H' := upd H2 a (exO a C)) (s' := { s2 with heap := h5 }) (ch := []) W.os ⟨fun b o q n nf _=>f5.1 b o (W.kb b o q n nf),fun b o q n hb _=>?_,fun b o q n _=>?_,fun b o q _=>?_,fun b xs q=>?_,fun b o u q=>?_,fun b ps q=>?_⟩ (fun b u q=>?_) W.bare (fun b z=>by cases z)
 ·obtain ⟨sl,z⟩ := W.un.slot b o q n hb (by simp)
  obtain ⟨_,sl',z'⟩ := fr b hb _ z
  exact ⟨sl',z'⟩
 ·rw [aqo (na b o q)]
  exact W.un.free b o q n (by simp)
 ·by_cases hb : b ∈ frs X.stack
  ·obtain ⟨o',z⟩ := W.un.there b o q (by simp)
   obtain ⟨_,sl',z'⟩ := fr b hb _ z
   exact ⟨_,z'⟩
  ·obtain ⟨o',z⟩ := W.thB b o q hb
   exact ⟨o',f5.1 b o' z⟩
 ·have z := W.un.tups b xs q
  rw [aqo (aqm z hn)]
  exact z
 ·have z := W.un.frzs b o u q
  rw [aqo (aqm z hn)]
  exact z
 ·obtain ⟨m,z⟩ := W.un.tbls b ps q
  exact ⟨m,by rw [aqo (aqm z hn)]; exact z⟩
 ·by_cases hb : b = a
  ·subst hb
   rw [aqj] at q
   cases q
   obtain ⟨ob,hob,hoc⟩ := f5.there
   exact ⟨⟨ob,hob,hoc⟩,⟨ob,hob⟩,fun h1 h2 ⟨o,z,c⟩ k=>⟨o,k o z,c⟩⟩
  ·rw [aqo hb] at q
   refine (W.hok b u q).stay (fun c v _ z=>f5.1 c v z) (fun c z=>?_) fun c xs z=>?_
   ·rw [aqo (aqm z hn)]; exact z
   ·rw [aqo (aqm z hn)]; exact z
end
structure Catch (K : Frag) (W : Addr) : Prop where
 ty : typeIn K (.ref W) = some (.type "type")
 ex : subIn K (.ref W) (.type "BaseException") = some true
 cl : (clsIn K W).isSome = true
theorem lqB {K : Frag} {M : Model} {h : Heap} {a W C : Addr} {o : Obj} (kin : K.In h) (ha : h.get? a = some o) (hc : o.cls = .ref C) (cw : Catch K W) (hs : subIn K (.ref C) (.ref W) = some true) : Looks M h (excMatches (.ref a) (.ref W)) true := by
 have L1 := looks_typeIn (M := M) kin cw.ty
 have L2 := looks_subIn (M := M) kin cw.ex
 have L3 := looks_subIn (M := M) kin hs
 have L4 : Looks M h (typeOf (.ref a)) (.ref C) := hc ▸ (Looks.ld ha).andThen .now
 have L5 : Looks M h (isInstance (.ref W) (.type "tuple")) false := L1.andThen (Looks.of_pure tc_notTuple)
 have L6 : Looks M h (isType (.ref W)) true := by
  have z := cw.cl
  unfold clsIn at z
  split at z
  ·next lk =>
   intro A' Q' E' s' k q
   unfold isType loadHead
   exact wpAny_bind (wpAny_loadPart (k _ _ (kin _ _ lk)) (wpAny_pure q))
  ·cases z
 intro A Q E s k q
 unfold excMatches isExcClass
 refine wpAny_bind (L5 A _ E s k ?_)
 simp only [Bool.false_eq_true,if_false]
 refine wpAny_bind (wpAny_pure ?_)
 refine wpAny_bind ?_
 rw [List.forIn_cons]
 refine wpAny_bind (wpAny_bind (wpAny_bind (L6 A _ E s k ?_)))
 simp only [if_true]
 refine L2 A _ E s k ?_
 simp only [Bool.not_true,Bool.false_eq_true,if_false]
 refine wpAny_pure ?_
 dsimp only
 rw [List.forIn_nil]
 refine wpAny_pure ?_
 refine wpAny_bind (L4 A _ E s k ?_)
 refine wpAny_bind ?_
 rw [List.forIn_cons]
 refine wpAny_bind (wpAny_bind (L3 A _ E s k ?_))
 simp only [if_true]
 refine wpAny_pure ?_
 dsimp only
 exact wpAny_pure (wpAny_pure q)
def tTry (K : Frag) (sp : Sp) (t : TA) (W : Addr) (i : Nat) (tb : TS) : TS := fun D σ H=>t σ H fun vs H1=>sp vs H1 (fun _ H2=>D.nx σ H2) fun cls _ H2 =>
 ∃ C,cls = .ref C /\ subIn K (.ref C) (.ref W) = some true /\ ∀ a,H2 a = none -> tb { nx := fun σ' H' => D.nx (σ'.set i none) H',rt := D.rt } (σ.set i (some (.ref a))) (upd H2 a (exO a C))
end L2
namespace L2
open PySem PySem.Spec PySem.W PySem.Calls PyProof.Rows PySem.Builtin PySem.Builtin.ObjectAttr PySem.Builtin.Getset_descriptor
structure ExLook (K : Frag) (C : Addr) : Prop where
 ga : findIn K (.ref C) "__getattribute__" = some (some (.builtin "BaseException.__getattribute__"))
 cl : findIn K (.ref C) "__class__" = some (some (.builtin "object.__class__"))
 na : findIn K (.ref C) "__getattr__" = some none
 mo : mroIn K C (.type "object") = some true
 mb : mroIn K C (.type "BaseException") = some true
 is : (clsIn K C).isSome = true
section
variable {prog : Program} {w : World} {A : Around} {E : Value -> Shared -> Prop} {hh : Heap} {g : Array GenState} {dr : Drawn} {t : Nat} {os : OsState} {K : Frag} {a C : Addr} {o : Obj}
end
inductive KitAns (K : Frag) (H : Hp) (C : Addr) : V -> Bool -> Prop
 | cls {W : Addr} {b : Bool} : kitOne K (.ref C) (.ref W) = some b -> KitAns K H C (.ref W) b
 | ty {T : String} {b : Bool} : kitOne K (.ref C) (.type T) = some b -> KitAns K H C (.ty T) b
 | tup {p : Addr} {cs : List Addr} {b : Bool} : H p = some (.tup (cs.map V.ref)) -> kitAny K (.ref C) (cs.map Value.ref) = some b -> KitAns K H C (.ref p) b
def rIsE (K : Frag) : List V -> Hp -> VK -> Prop := fun vs H Q=>∃ a c C b,vs = [.ref a,c] /\ H a = some (exO a C) /\ ExLook K C /\ KitAns K H C c b /\ Q (.bl b) H
end L2
namespace L2
open PySem PySem.W
theorem tqc {K : Frag} {a : Addr} {c : V} {H : Hp} {Q : VK} : rIsE K [.ref a,c] H Q ↔ ∃ C b,H a = some (exO a C) /\ ExLook K C /\ KitAns K H C c b /\ Q (.bl b) H :=
 ⟨fun ⟨_,_,C,b,e,h⟩=>by cases e; exact ⟨C,b,h⟩,fun ⟨C,b,h⟩=>⟨a,c,C,b,rfl,h⟩⟩
theorem sqk {K : Frag} {sp : Sp} {t : TA} {W : Addr} {i : Nat} {tb : TS} {D : Ends} {σ : St} {H : Hp} : tTry K sp t W i tb D σ H ↔ t σ H fun vs H1=>sp vs H1 (fun _ H2=>D.nx σ H2) fun cls _ H2 =>
 ∃ C,cls = .ref C /\ subIn K (.ref C) (.ref W) = some true /\ ∀ a,H2 a = none -> tb { nx := fun σ' H' => D.nx (σ'.set i none) H',rt := D.rt } (σ.set i (some (.ref a))) (upd H2 a (exO a C)) := Iff.rfl
end L2
namespace L2
open PySem PySem.Spec PyProof.Rows
section
variable {X : Cx}
def rStarts : V -> List V -> Hp -> VK -> Prop := fun x vs H Q=>∃ z y,∃ i : Nat,x = .str z /\ vs = [.str y,.int (i : Int)] /\ Q (.bl (decide (i + y.length <= z.length) && Builtin.Str.subAt z y i)) H
end
section
variable {X : Cx}
def rPart : V -> List V -> Hp -> VK -> Prop := fun x vs H Q=>∃ z y,x = .str z /\ vs = [.str y] /\ (y.length == 0) = false /\ z.length <= sizeLine /\
 ∀ p,H p = none -> Q (.ref p) (upd H p (.tup [.str (Txt.partition z y).1,.str (Txt.partition z y).2.1,.str (Txt.partition z y).2.2]))
end
section
variable {X : Cx}
def rIntS : List V -> Hp -> VK -> Prop := fun xs H Q=>∃ z n,xs = [.str z] /\ z.length <= 640 /\ PySem.intText? z = some n /\ Q (.int n) H
theorem oqF : CallR X (.type "int") rIntS := by
 intro pins s σ H xs us Q I r h
 obtain ⟨z,n,rfl,hz,hn,q⟩ := h
 obtain ⟨u,rfl,t,rfl⟩ := vals1 r
 exact PySem.W.KIN.call_text hn hz ⟨.int n,H,I.tok _,⟨_,rfl⟩,q⟩
theorem qqz {z : Str} {H : Hp} {Q : VK} : rIntS [.str z] H Q ↔ ∃ n,z.length <= 640 /\ PySem.intText? z = some n /\ Q (.int n) H :=
 ⟨fun ⟨_,n,e,h⟩=>by cases e; exact ⟨n,h⟩,fun ⟨n,h⟩=>⟨z,n,rfl,h⟩⟩
theorem sqv {z y : Str} {i : Nat} {H : Hp} {Q : VK} : rStarts (.str z) [.str y,.int (i : Int)] H Q ↔ Q (.bl (decide (i + y.length <= z.length) && Builtin.Str.subAt z y i)) H :=
 ⟨fun ⟨_,_,j,e1,e2,h⟩=>by
  cases e1
  injection e2 with e2 e3
  cases e2
  injection e3 with e3
  injection e3 with e3
  obtain rfl : i = j := by omega
  exact h,fun h=>⟨z,y,i,rfl,rfl,h⟩⟩
theorem rq3 {z y : Str} {H : Hp} {Q : VK} : rPart (.str z) [.str y] H Q ↔ (y.length == 0) = false /\ z.length <= sizeLine /\ ∀ p,H p = none -> Q (.ref p) (upd H p (.tup [.str (Txt.partition z y).1,.str (Txt.partition z y).2.1,.str (Txt.partition z y).2.2])) :=
 ⟨fun ⟨_,_,e1,e2,h⟩=>by cases e1; cases e2; exact h,fun h=>⟨z,y,rfl,rfl,h⟩⟩
theorem sqc {K : PySem.W.Frag} {ta : TE} {f : Str} {σ : St} {H : Hp} {Q : VK} : (tFld K ta f σ H Q) = (ta σ H fun x H1=>∃ a C dx fs v,x = .ref a /\ H1 a = some (.ins C dx fs) /\ Cls K C /\ NoAttr K C f /\ fs.lookup f = some v /\ Q v H1) := rfl
theorem qqA {K : PySem.W.Frag} {ta tv : TE} {f : Str} {D : Ends} {σ : St} {H : Hp} : (sFld K ta tv f D σ H) = (tv σ H fun y H1=>ta σ H1 fun x H2=>∃ a C dx fs,x = .ref a /\ H2 a = some (.ins C dx fs) /\ Cls K C /\ NoAttr K C f /\ fs.length < 1000 /\ D.nx σ (upd H2 a (.ins C dx (putF f y fs)))) := rfl
theorem qqm {C : Addr} {m : Str} {sp : Sp} {dvs : List V} {E : XK} {ta : TE} {t : TA} {σ : St} {H : Hp} {Q : VK} : (tMeth C m sp dvs E ta t σ H Q) = (ta σ H fun x H1=>∃ a dx fs,x = .ref a /\ H1 a = some (.ins C dx fs) /\ fs.lookup m = none /\ t σ H1 fun vs H2=>sp (x :: (vs ++ dvs)) H2 Q E) := rfl
theorem rqf {C : Addr} {sp : Sp} {dvs : List V} {E : XK} {t : TA} {σ : St} {H : Hp} {Q : VK} : (tMake C sp dvs E t σ H Q) = (t σ H fun vs H1=>∀ x dx,H1 x = none -> H1 dx = none -> dx ≠ x -> sp (.ref x :: (vs ++ dvs)) (upd (upd H1 dx (.own x)) x (.ins C dx [])) (fun v H2=>v = .non /\ Q (.ref x) H2) E) := rfl
end
end L2
namespace Wm
open PySem L2
def ahead (t : List Nat) : List Nat := t.takeWhile fun c=>decide (c ≠ 58)
inductive WrT (fr : List Nat) : List Nat -> List Nat -> Prop
 | nil : WrT fr [] []
 | self {c : Nat} {s w : List Nat} : (isPl c = true \/ c ∈ fr) -> c ≠ 126 -> WrT fr s w -> WrT fr (c :: s) (c :: w)
 | pair {c a b : Nat} {s w : List Nat} : sgO a b = some c -> WrT fr s w -> WrT fr (c :: s) (126 :: a :: b :: w)
section
variable {K : PySem.W.Frag} {H : Hp} {C p : Addr} {t : List Nat} {i : Nat}
end
def frS : List Nat := (Str.ofString "!$'()*,;@&=+").cps.toList
def frQ : List Nat := (Str.ofString "!$'()*,;@+/?:").cps.toList
def ValW (o : Option (List Nat)) (w : List Nat) : Prop := match o with
 | none=>w = []
 | some s=>∃ v,w = 61 :: v /\ WrT frQ s v
inductive TlW : List (List Nat) -> Bool -> List Nat -> Prop
 | stop : TlW [] false []
 | ends : TlW [] true [47]
 | more {s w : List Nat} {ss : List (List Nat)} {e : Bool} {v : List Nat} : WrT frS s w -> s ≠ [] -> TlW ss e v -> TlW (s :: ss) e (47 :: (w ++ v))
inductive StpW : List (List Nat) -> Bool -> List Nat -> Prop
 | none {e : Bool} : StpW [] e []
 | some {s w : List Nat} {ss : List (List Nat)} {e : Bool} {v : List Nat} : WrT frS s w -> s ≠ [] -> TlW ss e v -> StpW (s :: ss) e (w ++ v)
inductive PrsW : List (List Nat × Option (List Nat)) -> List Nat -> Prop
 | nil : PrsW [] []
 | cons {n w v : List Nat} {o : Option (List Nat)} {ps : List (List Nat × Option (List Nat))} {r : List Nat} : WrT frQ n w -> n ≠ [] -> ValW o v -> PrsW ps r -> PrsW ((n,o) :: ps) (38 :: (w ++ (v ++ r)))
def fgS : List Nat := (Str.ofString "0123456789").cps.toList
theorem sqm {c : Nat} : c ∈ fgS ↔ 48 <= c /\ c <= 57 := by
 rw [show fgS = [48,49,50,51,52,53,54,55,56,57] by decide +kernel]
 simp only [List.mem_cons,List.not_mem_nil,or_false]
 omega
def valD (ds : List Nat) : Nat := ds.foldl (fun a c=>a * 10 + (c - 48)) 0
theorem gqb (ds : List Nat) (c : Nat) : valD (ds ++ [c]) = valD ds * 10 + (c - 48) := by unfold valD; rw [List.foldl_append]; rfl
theorem nqB : ∀ (es ds : List Nat),valD ds <= valD (ds ++ es)
 | [],ds=>by rw [List.append_nil]; exact Nat.le_refl _
 | c :: es,ds=>by
  have h := nqB es (ds ++ [c])
  rw [gqb,List.append_assoc] at h
  exact Nat.le_trans (by omega) h
theorem pqT {ds : List Nat} {c : Nat} {r : List Nat} (h : ds = c :: r) (hc : 49 <= c) : 0 < valD ds := by
 have := nqB r [c]
 rw [h]
 have e : valD [c] = c - 48 := by unfold valD; simp
 show 0 < valD ([c] ++ r)
 omega
end Wm
namespace L2
open PySem
end L2
namespace Wm
open PySem L2
theorem gqC : ∀ n : Nat,valD ((Nat.toDigits 10 n).map Char.toNat) = n /\ (Nat.toDigits 10 n).map Char.toNat ≠ [] /\ (((Nat.toDigits 10 n).map Char.toNat).head? = some 48 -> n = 0)
 | n=>by
  by_cases h : n < 10
  ·rw [Nat.toDigits_of_lt_base h]
   have key : ∀ n,n < 10 -> valD ([Nat.digitChar n].map Char.toNat) = n /\ ([Nat.digitChar n].map Char.toNat).head? = some (48 + n) := by decide +kernel
   obtain ⟨k1,k2⟩ := key n h
   refine ⟨k1,by simp,fun z=>?_⟩
   rw [k2] at z
   injection z with z
   omega
  ·have h' : 10 <= n := by omega
   rw [Nat.toDigits_of_base_le (by decide) h',List.map_append]
   obtain ⟨i1,i2,i3⟩ := gqC (n / 10)
   have key : ∀ n,n < 10 -> ([Nat.digitChar n].map Char.toNat) = [48 + n] := by decide +kernel
   rw [key (n % 10) (by omega),gqb,i1]
   refine ⟨by omega,by simp,fun z=>?_⟩
   cases hh : (Nat.toDigits 10 (n / 10)).map Char.toNat with
   | nil=>exact absurd hh i2
   | cons c r =>
    rw [hh] at z i3
    have := i3 z
    omega
def GoodsT (n : Nat) (H : Hp) (vs : List V) : Prop := ∀ v ∈ vs,∃ x : Ad,(x.Wf /\ x.Tiny /\ x.steps.length <= n) /\ IsT H x.data v
theorem GoodsT.cons {n : Nat} {H : Hp} {v : V} {vs : List V} {x : Ad} (h1 : x.Wf /\ x.Tiny /\ x.steps.length <= n) (h3 : IsT H x.data v) (h : GoodsT n H vs) : GoodsT n H (v :: vs) := fun u hu=>by
 rcases List.mem_cons.mp hu with rfl | hu
 ·exact ⟨x,h1,h3⟩
 ·exact h u hu
theorem Ad.Tiny.local {x : Ad} (h : x.Tiny) : ({ x with scheme := [],house := none,door := none } : Ad).Tiny := ⟨h.stp,h.que,h.mar,fun l e=>by cases e⟩
end Wm
namespace L2
open PySem PySem.Spec PyProof.Rows
section
variable {X : Cx} {pins : List (Addr × Obj)} {σ : St} {H : Hp} {s : Shared} {h' : Heap}
theorem Inv.walked {t' : Nat} {wr : List Addr} {T : Addr} {o : HO} (I : Inv X pins σ H s) (hf : ∀ b ∈ wr,FpOk X pins H b) (k : ∀ b u,b ∉ wr -> s.heap.get? b = some u -> h'.get? b = some u) (hT : s.heap.objs.size <= T)
  (new : ObjOk X.prog X.w (upd H T o) h' T o) : Inv X pins σ (upd H T o) { s with heap := h',toks := t' } := by
 have hn : H T = none := I.hok.fresh hT
 have nw : ∀ b u,H b = some u -> b ∉ wr := fun b u e z=>by rw [(hf b z).1] at e; cases e
 refine I.step (g' := s.gens) (d' := s.drawn) (ch := wr) (fun b hb=>?_) (fun b u _ _ hc e _=>k b u hc e) (fun b u _ _ hc e _=>⟨u.slots,k b u hc e⟩) (fun b u _ q n=>?_)
  (fun b u hc e=>⟨u,k b u hc e⟩) (fun b xs q=>?_) (fun b u xs q=>?_) (fun b ps q=>?_) (fun m hm=>?_) (fun b u e=>?_) I.bare
 ·obtain ⟨f0,f1,f2,f3,f4,f5⟩ := hf b hb
  exact ⟨f3,f1,f4,f5⟩
 ·rw [aqo (Nat.ne_of_lt (Nat.lt_of_lt_of_le (Heap.lt_size q) hT))]; exact n
 ·rw [aqo (aqm q hn)]; exact q
 ·rw [aqo (aqm q hn)]; exact q
 ·exact ⟨#[],by rw [aqo (aqm q hn),q]; simp⟩
 ·obtain ⟨u,es,ep,ho,r⟩ := hm
  refine ⟨u,es,ep,k _ u (fun z=>?_) ho,r⟩
  exact (hf _ z).2.1 rfl
 ·by_cases hb : b = T
  ·subst hb; rw [aqj] at e; cases e; exact new
  ·rw [aqo hb] at e
   refine (I.hok b u e).stay (fun c v hc q=>k c v ?_ q) (fun c q=>by rw [aqo (aqm q hn)]; exact q) fun c xs q=>by rw [aqo (aqm q hn)]; exact q
   rcases hc with z | z
   ·rw [z]; exact nw b u e
   ·exact nw c _ z
theorem Inv.turnedL {t' : Nat} {wr : List Addr} (I : Inv X pins σ H s) (hf : ∀ b ∈ wr,FpOk X pins H b) (k : ∀ b u,b ∉ wr -> s.heap.get? b = some u -> h'.get? b = some u) : Inv X pins σ H { s with heap := h',toks := t' } := by
 have nw : ∀ b u,H b = some u -> b ∉ wr := fun b u e z=>by rw [(hf b z).1] at e; cases e
 refine I.step (g' := s.gens) (d' := s.drawn) (ch := wr) (fun b hb=>?_) (fun b u _ _ hc e _=>k b u hc e) (fun b u _ _ hc e _=>⟨u.slots,k b u hc e⟩) (fun _ _ _ _ n=>n)
  (fun b u hc e=>⟨u,k b u hc e⟩) (fun _ _ e=>e) (fun _ _ _ e=>e) (fun b ps e=>⟨#[],by rw [e]; simp⟩) (fun m hm=>?_) (fun b u e=>?_) I.bare
 ·obtain ⟨f0,f1,f2,f3,f4,f5⟩ := hf b hb
  exact ⟨f3,f1,f4,f5⟩
 ·obtain ⟨u,es,ep,ho,r⟩ := hm
  refine ⟨u,es,ep,k _ u (fun z=>?_) ho,r⟩
  exact (hf _ z).2.1 rfl
 ·refine (I.hok b u e).stay (fun c v hc q=>k c v ?_ q) (fun _ q=>q) fun _ _ q=>q
  rcases hc with z | z
  ·rw [z]; exact nw b u e
  ·exact nw c _ z
end
def ItW (n : Nat) (ok : Hp -> Prop) (pt : Nat -> Hp -> List V -> Prop) : It :=
 ⟨fun i H=>i < n /\ ok H,fun i H x H' => ∃ T xs,x = .ref T /\ H T = none /\ H' = upd H T (.tup xs) /\ pt i H xs,fun i H=>i = n /\ ok H⟩
theorem hq8 {P : Program} {w : World} {K : PySem.W.Frag} {elts : List Expr} {k : Nat} {pos : Pos} {I : Addr} {fp wr fq : List Addr} {n : Nat} {α : Type} {Pt : α -> Nat -> Array Value -> Prop} {Sn : α -> Nat -> Heap -> Prop} {Mid : α -> Nat -> Addr -> Heap -> Prop} {tn : Nat -> Heap -> Prop} {ok : Hp -> Prop} {pt : Nat -> Hp -> List V -> Prop}
  (hI : I ∈ fq) (hq : ∀ b ∈ wr,b ∈ fq) (hW : ∀ (A : Around) (a : α),A.handled = none -> WalksT P w A I fp wr n (Pt a) (Sn a) (Mid a))
  (hself : ∀ (A : Around) (i : Nat) (s : Shared) (Q : Value -> Shared -> Prop) (E : Value -> Shared -> Prop),tn i s.heap -> Q (.ref I) s -> wpAny (model P w) A (pyIter (.ref I)) Q E s)
  (hobj : ∀ i h,tn i h -> ∀ b ∈ fq,∃ o,h.get? b = some o /\ ∀ v,o.data ≠ .cell v)
  (hkeep : ∀ i h h',tn i h -> (∀ b ∈ fq,∀ o,h.get? b = some o -> h'.get? b = some o) -> tn i h')
  (hin : ∀ (X : Cx),X.prog = P -> X.w = w -> X.K = K -> ∀ (i : Nat) (pins : List (Addr × Obj)) (s : Shared) (σ : St) (H : Hp),Inv X pins σ H s -> (∀ b ∈ fq,FpOk X pins H b) -> tn i s.heap -> ok H -> ∃ a,Sn a i s.heap /\ ∀ vals,Pt a i vals -> ∃ xs,xs.length <= sizeLine /\ Vals xs vals.toList /\ pt i H xs)
  (hout : ∀ a i h,Sn a i h -> tn i h) :
  Turn P w K (.Tuple elts k pos) (ItW n ok pt) fq I tn where
 mem := hI
 obj := hobj
 keep := hkeep
 item := by
  intro X hP hw hK hc i pins s σ H E J hf st hg
  obtain ⟨hi,hok⟩ := hg
  have hfw : ∀ b ∈ wr,FpOk X pins H b := fun b hb=>hf b (hq b hb)
  obtain ⟨a,hst,hv⟩ := hin X hP hw hK i pins s σ H J hf st hok
  obtain ⟨hW1,hW2,hW3,hW4,hW5,hW6,hW7⟩ := hW X.A a (J.ok.hd hc)
  refine hW3 i s _ E hi hst fun T vals h1 tk hPt hT hTup hmid hk=>?_
  refine ⟨.ref T,rfl,?_⟩
  refine hW4 elts k pos i T _ _ E hmid fun h2 st2 hk2=>?_
  obtain ⟨xs,hxl,hvs,hpt⟩ := hv vals hPt
  have hTw : T ∉ wr := hW5 i T h1 hmid
  have hTn : H T = none := J.hok.fresh hT
  have hk3 : ∀ b u,b ∉ wr -> s.heap.get? b = some u -> h2.get? b = some u := fun b u hb e=>hk2 b u hb (hk b u hb e)
  obtain ⟨o,ho,hcl,m,hd⟩ := hTup
  have hT2 : IsTup h2 T vals.toList.toArray := by
   refine ⟨o,hk2 T o hTw ho,hcl,m,?_⟩
   rw [hd]
  refine ⟨.ref T,upd H T (.tup xs),J.walked (t' := tk) hfw hk3 hT ⟨hxl,vals.toList,hvs,hT2⟩,rfl,⟨T,xs,rfl,hTn,rfl,hpt⟩,hout a _ _ st2,fun b hb=>?_⟩
  have : b ≠ T := fun z=>by
   obtain ⟨o,e,_⟩ := hobj i _ st b hb
   exact absurd (Heap.lt_size e) (by rw [z]; exact Nat.not_lt.mpr hT)
  rw [aqo this]
  exact (hf b hb).1
 done := by
  intro X hP hw hK hc i pins s σ H E J hf st hg
  obtain ⟨hi,hok⟩ := hg
  subst hi
  have hfw : ∀ b ∈ wr,FpOk X pins H b := fun b hb=>hf b (hq b hb)
  obtain ⟨a,hst,_⟩ := hin X hP hw hK i pins s σ H J hf st hok
  obtain ⟨hW1,hW2,hW3,hW4,hW5,hW6,hW7⟩ := hW X.A a (J.ok.hd hc)
  exact hW6 s _ E hst fun h1 tk hk=>⟨rfl,J.turnedL hfw hk⟩
 self := hself
section
variable {σ : St} {H : Hp} {D : Ends} {g : TG} {tb : TS}
theorem kqC {n : Nat} {ok : Hp -> Prop} {pt : Nat -> Hp -> List V -> Prop} (Pv : Nat -> St -> Hp -> Prop) (h0 : Pv 0 σ H) (hl : ∀ i σ H,i <= n -> Pv i σ H -> ok H)
  (hs : ∀ i σ H T xs,i < n -> Pv i σ H -> H T = none -> pt i H xs -> g (.ref T) σ (upd H T (.tup xs)) fun σ2 H2=>tb { D with nx := Pv (i + 1),ct := Pv (i + 1),bk := D.nx } σ2 H2) (hd : ∀ σ H,Pv n σ H -> D.nx σ H) : LoopI (ItW n ok pt) g tb D σ H := by
 refine ⟨fun i m σ H=>m = n - i /\ i <= n /\ Pv i σ H,⟨n,by simp,Nat.zero_le _,h0⟩,?_⟩
 rintro i m σ H ⟨rfl,hi,p⟩
 have hq := hl i σ H hi p
 by_cases hlt : i < n
 ·refine .inr ⟨⟨hlt,hq⟩,Pv (i + 1),fun σ' H' p' => ⟨n - (i + 1),by omega,rfl,hlt,p'⟩,fun x H' y=>?_⟩
  obtain ⟨T,xs,rfl,hT,rfl,hp⟩ := y
  exact hs i σ _ T xs hlt p hT hp
 ·have e : i = n := by omega
  subst e
  exact .inl ⟨⟨rfl,hq⟩,hd σ H p⟩
end
section
variable {prog : Program} {w : World} {A : Around} {E : Value -> Shared -> Prop} {s : Shared}
theorem oqM {it a : Addr} {i : Nat} {its : Array Value} {x : Value} {Q : Value -> Shared -> Prop} (hi : s.heap.IsTupleIter it a i) (ha : s.heap.IsTuple a its) (hx : its[i]? = some x)
  (q : ∀ h',h'.IsTupleIter it a (i + 1) -> Heap.SameBut it s.heap h' -> Q x { s with heap := h' }) : wpAny (model prog w) A (Builtin.SmallTypes.nextOf (.ref it)) Q E s := by
 obtain ⟨u,hu,hcu,hdu⟩ := id hi
 obtain ⟨v,hv,_,m,hdv⟩ := ha
 unfold Builtin.SmallTypes.nextOf
 refine wpAny_bind (wpAny_callSpecial?_slot (name := Str.ofString "__next__") hi.typeIs F.slot_tuple_iterator_next (wpAny_call_entry F.slot_tuple_iterator_next hi.typeIs F.entry_tuple_iterator_next ?_ (F.args_tuple_iterator_next_1 _)))
 show wpAny _ _ (field (.ref it) 0 >>= _) _ _ _
 refine wpAny_bind (wpAny_field hu hdu (x := .ref a) rfl ?_)
 show wpAny _ _ (if (Value.ref a == Value.none) = true then _ else _) _ _ _
 rw [if_neg (by exact Bool.false_ne_true)]
 show wpAny _ _ (field (.ref it) 1 >>= _) _ _ _
 refine wpAny_bind (wpAny_field hu hdu (x := .int i 0) rfl ?_)
 show wpAny _ _ (seqItems? (.ref a) >>= _) _ _ _
 refine wpAny_bind (wpAny_seqItems hv hdv ?_)
 simp only [Int.toNat_natCast,hx]
 refine wpAny_bind (wpAny_setField hu hdu (by simp) (wpAny_pure ⟨x,rfl,wpAny_pure (q _ ⟨_,Heap.get?_update_self _ hu (Obj.isFreed_of_fields (Obj.data_mapFields hdu _)),(Obj.cls_mapFields ..).trans hcu,?_⟩ (Heap.SameBut.update ..))⟩))
 rw [Obj.data_mapFields hdu]
 simp [rawInt]
theorem nqL {it a : Addr} {i : Nat} {its : Array Value} {Q : Value -> Shared -> Prop} (hh : A.handled = none) (hi : s.heap.IsTupleIter it a i) (ha : s.heap.IsTuple a its) (hx : its[i]? = none)
  (q : ∀ h' e,Heap.ExtBut it s.heap h' -> (∃ o,h'.get? e = some o /\ o.cls = .type "StopIteration") -> E (.ref e) { s with heap := h' }) : wpAny (model prog w) A (Builtin.SmallTypes.nextOf (.ref it)) Q E s := by
 obtain ⟨u,hu,hcu,hdu⟩ := id hi
 obtain ⟨v,hv,_,m,hdv⟩ := ha
 unfold Builtin.SmallTypes.nextOf
 refine wpAny_bind (wpAny_callSpecial?_slot (name := Str.ofString "__next__") hi.typeIs F.slot_tuple_iterator_next (wpAny_call_entry F.slot_tuple_iterator_next hi.typeIs F.entry_tuple_iterator_next ?_ (F.args_tuple_iterator_next_1 _)))
 show wpAny _ _ (field (.ref it) 0 >>= _) _ _ _
 refine wpAny_bind (wpAny_field hu hdu (x := .ref a) rfl ?_)
 show wpAny _ _ (if (Value.ref a == Value.none) = true then _ else _) _ _ _
 rw [if_neg (by exact Bool.false_ne_true)]
 show wpAny _ _ (field (.ref it) 1 >>= _) _ _ _
 refine wpAny_bind (wpAny_field hu hdu (x := .int i 0) rfl ?_)
 show wpAny _ _ (seqItems? (.ref a) >>= _) _ _ _
 refine wpAny_bind (wpAny_seqItems hv hdv ?_)
 simp only [Int.toNat_natCast,hx]
 refine wpAny_bind (wpAny_rule (wpAny_bind (wpAny_setField hu hdu (by simp) ?_)))
 show wpAny _ A.in1 (newExc (.type "StopIteration") [] >>= _) _ _ _
 unfold newExc newTuple
 refine wpAny_bind (wpAny_bind (wpAny_newObj_type (wpAny_bind (m := firstArgMember _ _) (wpAny_of_eq (a := Value.none) (by first | rfl | (simp only [firstArgMember]; rfl)) (wpAny_newObj_type ?_ (by size_fits)))) (by size_fits)))
 unfold raiseNew
 refine wpAny_bind (wpAny_handled ?_)
 rw [show A.in1.handled = none from hh]
 exact wpAny_bind (wpAny_pure (wpAny_throw (q _ _ (((Heap.SameBut.update ..).extBut.push _).push _) ⟨_,Heap.get?_push_size _ rfl,rfl⟩)))
theorem hqO (hh : A.handled = none) (it a : Addr) (hne : a ≠ it) (its : Array Value) : Draws prog w A it [it,a] its.size (fun i v=>its[i]? = some v) (fun i h=>h.IsTupleIter it a i /\ h.IsTuple a its) where
 live := fun _ _ st=>let ⟨o,ho,_⟩ := st.1; ⟨o,ho⟩
 frame := fun _ _ _ st hk=>⟨let ⟨o,ho,r⟩ := st.1; ⟨o,hk it (by simp) o ho,r⟩,let ⟨o,ho,r⟩ := st.2; ⟨o,hk a (by simp) o ho,r⟩⟩
 item := fun i s Q E hi st hQ=>oqM st.1 st.2 (x := its[i]) (by simp [hi]) fun h' hit' hs' => hQ _ h' s.toks (by simp [hi]) ⟨hit',st.2.extBut hs'.extBut hne⟩ hs'
 done := fun s Q E st hE=>nqL hh st.1 st.2 (by simp) hE
end
abbrev titO (t : Addr) : Obj := { cls := .type "tuple_iterator", data := .fields #[.ref t,.int 0 0] }
abbrev enuO (it : Addr) : Obj := { cls := .type "enumerate", data := .fields #[.none,.bool false,.ref it,rawInt 0,.none,.none] }
theorem pqy (t : Addr) (its : Array Value) : Meets (Builtin.«enumerate.__new__» ⟨[.type "enumerate", .ref t],[]⟩) (fun _ R s=>s.heap.IsTuple t its /\
  R (.ok (.ret (.ref (s.heap.push (titO t)).objs.size))) { s with heap := (s.heap.push (titO t)).push (enuO s.heap.objs.size) }) :=
 .of_wp fun prog w A R s h=>by
  obtain ⟨hp,g,d,tk,os⟩ := s; obtain ⟨hl,h⟩ := h
  have hsub := sub_enumerate
  wp_walk using wpAny_pyIter_tuple hl
  refine wpAny_stack_any fun _=>wpAny_pure ?_
  split
  ·rename_i z _ _ _ _ _
   cases (z == Value.type "enumerate") <;> (wp_walk using wpAny_pyIter_tuple hl) <;> exact ⟨_,rfl,h⟩
  ·wp_walk using wpAny_pyIter_tuple hl
   exact ⟨_,rfl,h⟩
section
variable {prog : Program} {w : World} {A : Around} {E : Value -> Shared -> Prop} {s : Shared}
theorem nqu {t : Addr} {its : Array Value} {Q : Value -> Shared -> Prop} (ht : s.heap.IsTuple t its)
  (h : ∀ h',IsEnum h' (s.heap.objs.size + 1) s.heap.objs.size 0 .none -> h'.IsTupleIter s.heap.objs.size t 0 -> (∀ b o,s.heap.get? b = some o -> h'.get? b = some o) -> Q (.ref (s.heap.objs.size + 1)) { s with heap := h' }) :
  wpAny (model prog w) A (call (.type "enumerate") [.ref t]) Q E s := by
 refine callType_new F.called_enumerate (by decide) (F.typeCall_enumerate_1 _) (F.newCall_enumerate_1 _) (fun obj=>F.args_object_init_2 obj _) F.entry_enumerate_new (pqy t its) ⟨ht,?_⟩
 have hz : (s.heap.push (titO t)).objs.size = s.heap.objs.size + 1 := Heap.size_push ..
 show _ /\ _
 rw [hz]
 have he : IsEnum ((s.heap.push (titO t)).push (enuO s.heap.objs.size)) (s.heap.objs.size + 1) s.heap.objs.size 0 .none := by
  have := Heap.get?_push_size (s.heap.push (titO t)) (o := enuO s.heap.objs.size) rfl
  rw [hz] at this
  exact this
 exact ⟨⟨_,he,rfl⟩,h _ he ⟨_,Heap.get?_push_of_some _ (Heap.get?_push_size _ rfl),rfl,rfl⟩ fun b o x=>Heap.get?_push_of_some _ (Heap.get?_push_of_some _ x)⟩
end
def ItE (K : PySem.W.Frag) (a : Addr) (xs : List V) : It := ItW xs.length (fun H=>SqT K H a xs) fun i _ ys=>∃ v,xs[i]? = some v /\ ys = [.int (i : Int),v]
theorem oqh {P : Program} {w : World} {K : PySem.W.Frag} {elts : List Expr} {k : Nat} {pos : Pos} (a it e : Addr) (xs : List V) (h1 : a ≠ it) (h2 : e ≠ it) (h3 : e ≠ a) :
  Turn P w K (.Tuple elts k pos) (ItE K a xs) [e,it] e (fun i h=>(∃ old,IsEnum h e it i old) /\ h.IsTupleIter it a i) := by
 refine hq8 (fp := e :: [it,a]) (α := { its : Array Value // its.size = xs.length }) (Pt := fun z i vals=>∃ t x,z.1[i]? = some x /\ vals = #[.int i t,x])
  (Sn := fun z i h=>(∃ old,IsEnum h e it i old) /\ (h.IsTupleIter it a i /\ h.IsTuple a z.1)) (Mid := fun z i T h=>(∃ x,IsEnumOut h e it ((i : Int) + 1) x T) /\ (h.IsTupleIter it a (i + 1) /\ h.IsTuple a z.1) /\ T ≠ e /\ T ≠ it)
  (by simp) (fun _ z=>z) (fun A z hh=>?_) (fun A i s Q E st q=>?_) (fun i h st b hb=>?_) (fun i h h' st kp=>?_) ?_ (fun z i h st=>⟨st.1,st.2.1⟩)
 ·have := WalksT.enumerateD (hqO (prog := P) (w := w) (A := A.in1) hh it a h1 z.1) e h2 (by simp [h2,h3]) (by simp)
  rw [z.2] at this
  exact this
 ·obtain ⟨⟨old,he⟩,_⟩ := st
  exact wpAny_pyIter_enum he q
 ·obtain ⟨⟨old,he⟩,o,ho,hc,hd⟩ := st
  rcases List.mem_cons.mp hb with rfl | hb
  ·exact ⟨_,he,fun v z=>by cases z⟩
  ·rw [List.mem_singleton.mp hb]
   exact ⟨o,ho,fun v z=>by rw [hd] at z; cases z⟩
 ·obtain ⟨⟨old,he⟩,o,ho,r⟩ := st
  exact ⟨⟨old,kp e (by simp) _ he⟩,o,kp it (by simp) o ho,r⟩
 ·intro X hP hw hK i pins s σ H J hf st hok
  subst hP hw hK
  obtain ⟨its,rv,p,hz⟩ := J.tuple hok
  refine ⟨⟨its.toArray,by have := rv.length; simp; omega⟩,⟨st.1,st.2,p⟩,?_⟩
  rintro vals ⟨t,x,hx,rfl⟩
  have hx' : its[i]? = some x := by simpa using hx
  have hi : i < xs.length := by have := rv.length; have := (List.getElem?_eq_some_iff.mp hx').1; omega
  obtain ⟨u,hu,ru⟩ := rv.get (List.getElem?_eq_getElem hi)
  rw [hx'] at hu
  cases hu
  exact ⟨[.int (i : Int),xs[i]],(show 2 <= sizeLine by decide),.cons ⟨t,rfl⟩ (.cons ru .nil),xs[i],List.getElem?_eq_getElem hi,rfl⟩
section
variable {X : Cx} {K : PySem.W.Frag} {elts : List Expr} {kk : Nat} {tpos : Pos}
def iEnum (K : PySem.W.Frag) (ta : TA) : TI := fun σ H R=>ta σ H fun vs H1=>∃ a xs,vs = [.ref a] /\ SqT K H1 a xs /\ R (ItE K a xs) H1
theorem oqH {a : Expr} {ta : TA} {p pos : Pos} (h : X.K = K) (hg : Gl X "enumerate") (hm : X.mg "enumerate" = none) (ha : PA X [a] ta) (hs : starEach [a] X.env = [(false,eval a X.env)] := by rfl) : PI X (.Tuple elts kk tpos) (.Call (.Name "enumerate" p) [a] [] pos) (iEnum K ta) := by
 subst h
 intro pins s σ H R I q
 refine Call_ (hqH I hg hm boot_enumerate (PyProof.Rows.callWith_type1 (thn (ha pos pins s σ H _ I q) fun us s1 W' => ?_) hs rfl))
 obtain ⟨vs,H1,I1,r1,q1⟩ := W'
 obtain ⟨a,xs,e,hq,q⟩ := q1
 subst e
 obtain ⟨u,rfl,ru⟩ := vals1 r1
 cases ru
 obtain ⟨its,rv,pt,hz⟩ := I1.tuple hq
 refine nqu (show s1.heap.IsTuple a its.toArray from pt) fun h' he hi hk=>?_
 refine wpAny_pyIter_enum (s := { s1 with heap := h' }) he ?_
 have hal : a < s1.heap.objs.size := by obtain ⟨o,ho,_⟩ := pt; exact Heap.lt_size ho
 have hkept : Inv X pins σ H1 { s1 with heap := h' } := I1.kept (t' := s1.toks) hk
 refine ⟨s1.heap.objs.size + 1,[s1.heap.objs.size + 1,s1.heap.objs.size],_,_,H1,rfl,hkept,oqh a s1.heap.objs.size (s1.heap.objs.size + 1) xs (Nat.ne_of_lt hal) (Nat.succ_ne_self _) (Nat.ne_of_gt (Nat.lt_succ_of_lt hal)),⟨⟨_,he⟩,hi⟩,fun b hb=>?_,q⟩
 simp only [List.mem_cons,List.not_mem_nil,or_false] at hb
 have hb' : s1.heap.objs.size <= b := by
  rcases hb with rfl | rfl
  ·exact Nat.le_succ _
  ·exact Nat.le_refl _
 exact I1.fpOk hb' (I1.hok.fresh hb')
variable {σ : St} {H : Hp} {D : Ends} {g : TG} {tb : TS} {aa : TA}
theorem rqm : (tFor (iEnum K aa) g tb D σ H) = (aa σ H fun vs H1=>∃ a xs,vs = [.ref a] /\ SqT K H1 a xs /\ LoopI (ItE K a xs) g tb D σ H1) := rfl
theorem kq9 {a : Addr} {xs : List V} (Pv : Nat -> St -> Hp -> Prop) (h0 : Pv 0 σ H) (hl : ∀ i σ H,i <= xs.length -> Pv i σ H -> SqT K H a xs)
  (hs : ∀ i v σ H T,xs[i]? = some v -> Pv i σ H -> H T = none -> g (.ref T) σ (upd H T (.tup [.int (i : Int),v])) fun σ2 H2=>tb { D with nx := Pv (i + 1),ct := Pv (i + 1),bk := D.nx } σ2 H2) (hd : ∀ σ H,Pv xs.length σ H -> D.nx σ H) : LoopI (ItE K a xs) g tb D σ H :=
 kqC Pv h0 hl (fun i σ H T ys _ p hT hy=>by obtain ⟨v,hv,rfl⟩ := hy; exact hs i v σ H T hv p hT) hd
end
structure Zap (z TI TO i1 i2 l1 l2 : Addr) : Prop where
 a1 : TI ≠ z /\ TO ≠ z /\ i1 ≠ z /\ i2 ≠ z /\ l1 ≠ z /\ l2 ≠ z
 a2 : TI ≠ TO /\ TI ≠ i1 /\ TI ≠ i2 /\ TO ≠ i1 /\ TO ≠ i2 /\ i1 ≠ i2
 a3 : l1 ≠ TO /\ l2 ≠ TO /\ l1 ≠ i2 /\ l2 ≠ i1
section
variable {prog : Program} {w : World} {A : Around} {E : Value -> Shared -> Prop} {s : Shared}
variable {z TI TO i1 i2 l1 l2 : Addr} {n1 n2 k : Nat} {P1 P2 : Nat -> Value -> Prop} {S1 S2 : Nat -> Heap -> Prop}
theorem still {it l b : Addr} {n i : Nat} {P : Nat -> Value -> Prop} {S : Nat -> Heap -> Prop} {h h' : Heap} (D : Draws prog w A it [it,l] n P S) (st : S i h) (e : Heap.ExtBut b h h') (h1 : it ≠ b) (h2 : l ≠ b) : S i h' :=
 D.frame i h h' st fun c hc o q=>e c o (by rcases List.mem_cons.mp hc with rfl | hc; exact h1; rw [List.mem_singleton.mp hc]; exact h2) q
theorem pqx (hh : A.handled = none) (d1 : ∀ A : Around,A.handled = none -> Draws prog w A i1 [i1,l1] n1 P1 S1) (d2 : ∀ A : Around,A.handled = none -> Draws prog w A i2 [i2,l2] n2 P2 S2) (ap : Zap z TI TO i1 i2 l1 l2) {a b : Value} {Q : Value -> Shared -> Prop}
  (hz : IsZip s.heap z TI TO .none) (hTI : IsPair s.heap TI (.ref i1) (.ref i2)) (hTO : IsPair s.heap TO a b) (t1 : S1 k s.heap) (t2 : S2 k s.heap) (k1 : k < n1) (k2 : k < n2)
  (q : ∀ x y h' tk,P1 k x -> P2 k y -> IsZip h' z TI TO (rawInt s.heap.objs.size) -> IsPair h' TO x y -> S1 (k + 1) h' -> S2 (k + 1) h' -> IsPair h' s.heap.objs.size x y ->
   (∀ c o,c ≠ z -> c ≠ TO -> c ≠ i1 -> c ≠ i2 -> s.heap.get? c = some o -> h'.get? c = some o) -> Q (.ref s.heap.objs.size) { s with heap := h',toks := tk }) :
  wpAny (model prog w) A (Builtin.«zip.__next__» ⟨[.ref z],[]⟩) (fun fin s' => ∃ v,fin = .done (.ret v) /\ Q v s') E s := by
 obtain ⟨⟨p1,p2,p3,p4,p5,p6⟩,⟨q1,q2,q3,q4,q5,q6⟩,r1,r2,r3,r4⟩ := ap
 show wpAny _ _ (field (.ref z) 2 >>= _) _ _ s
 refine wpAny_bind (wpAny_field (s := s) hz rfl (x := .bool false) rfl ?_)
 show wpAny _ _ (field (.ref z) 3 >>= _) _ _ s
 refine wpAny_bind (wpAny_field (s := s) hz rfl (x := .ref TI) rfl (wpAny_bind (wpAny_seqItems hTI rfl ?_)))
 show wpAny _ _ (Builtin.SmallTypes.ownedTupleIsFree (.ref z) >>= _) _ _ s
 unfold Builtin.SmallTypes.ownedTupleIsFree
 refine wpAny_bind (wpAny_bind (wpAny_field (s := s) hz rfl (x := .none) rfl (wpAny_pure ?_)))
 simp only [if_true]
 refine wpAny_bind (wpAny_rule (wpAny_bind (wpAny_field (s := s) hz rfl (x := .ref TO) rfl (wpAny_bind (wpAny_setField_rec hz (by simp) fun ha za sa=>?_)))))
 replace za : IsZip ha z TI TO .ellipsis := za
 simp only [List.zipIdx_cons,List.zipIdx_nil,List.forIn_cons,List.forIn_nil]
 refine wpAny_bind (wpAny_bind (wpAny_bind (wpAny_onRaise ?_)))
 show wpAny _ _ (Builtin.SmallTypes.nextOf (.ref i1) >>= _) _ _ _
 refine wpAny_bind ((d1 A hh).item k _ _ _ k1 (still (d1 A hh) t1 sa.extBut p3 p5) fun x hb tb px s1b sb=>wpAny_pure ?_)
 have ob : IsPair hb TO a b := sb.extBut _ _ q4 (sa.extBut _ _ p2 hTO)
 refine wpAny_bind (wpAny_seqItems ob rfl (wpAny_bind (wpAny_updateSeq_pair ob fun hc oc sc=>wpAny_bind (wpAny_letGo (wpAny_pure ?_)))))
 replace oc : IsPair hc TO x b := oc
 refine wpAny_bind (wpAny_bind (wpAny_onRaise ?_))
 show wpAny _ _ (Builtin.SmallTypes.nextOf (.ref i2) >>= _) _ _ _
 have t2c : S2 k hc := still (d2 A hh) (still (d2 A hh) (still (d2 A hh) t2 sa.extBut p4 p6) sb.extBut q6.symm r4) sc.extBut q5.symm r2
 refine wpAny_bind ((d2 A hh).item k _ _ _ k2 t2c fun y hd td py s2d sd=>wpAny_pure ?_)
 have od : IsPair hd TO x b := sd.extBut _ _ q5 oc
 refine wpAny_bind (wpAny_seqItems od rfl (wpAny_bind (wpAny_updateSeq_pair od fun he oe se=>wpAny_bind (wpAny_letGo (wpAny_pure (wpAny_pure ?_))))))
 replace oe : IsPair he TO x y := oe
 refine wpAny_bind (wpAny_seqItems oe rfl (wpAny_bind (wpAny_newTuple ?_)))
 have ze : IsZip he z TI TO .ellipsis := se.extBut _ _ p2.symm (sd.extBut _ _ p4.symm (sc.extBut _ _ p2.symm (sb.extBut _ _ p3.symm za)))
 have hsz : he.objs.size = s.heap.objs.size := by rw [se.1,sd.1,sc.1,sb.1,sa.1]
 have ke : ∀ c o,c ≠ z -> c ≠ TO -> c ≠ i1 -> c ≠ i2 -> s.heap.get? c = some o -> he.get? c = some o := fun c o c1 c2 c3 c4 e=>se.extBut _ _ c2 (sd.extBut _ _ c4 (sc.extBut _ _ c2 (sb.extBut _ _ c3 (sa.extBut _ _ c1 e))))
 have s1e : S1 (k + 1) he := still (d1 A hh) (still (d1 A hh) (still (d1 A hh) s1b sc.extBut q4.symm r1) sd.extBut q6 r3) se.extBut q4.symm r1
 have s2e : S2 (k + 1) he := still (d2 A hh) s2d se.extBut q5.symm r2
 have zl : z < he.objs.size := Heap.lt_size ze
 show wpAny _ _ (Builtin.SmallTypes.ownedTupleHandOut (.ref z) (.ref he.objs.size) >>= _) _ _ _
 unfold Builtin.SmallTypes.ownedTupleHandOut
 have zf : IsZip (he.push { cls := .type "tuple", data := .seq #[x,y] }) z TI TO .ellipsis := Heap.get?_push_of_some _ ze
 refine wpAny_bind (wpAny_bind (wpAny_setField_rec zf (by simp) fun hf zg sf=>?_))
 replace zg : IsZip hf z TI TO (rawInt he.objs.size) := zg
 refine wpAny_setField_rec zg (by simp) fun hg zh sg=>?_
 replace zh : IsZip hg z TI TO (rawInt he.objs.size) := zh
 have up : ∀ c o,c ≠ z -> he.get? c = some o -> hg.get? c = some o := fun c o c1 e=>sg.extBut _ _ c1 (sf.extBut _ _ c1 (Heap.get?_push_of_some _ e))
 have tg : IsPair hg he.objs.size x y := sg.extBut _ _ (Nat.ne_of_gt zl) (sf.extBut _ _ (Nat.ne_of_gt zl) (Heap.get?_push_size _ rfl))
 rw [hsz] at zh tg
 refine wpAny_pure ⟨_,rfl,?_⟩
 show Q (.ref he.objs.size) _
 rw [hsz]
 exact q x y hg td px py zh (up _ _ p2 oe) ((d1 A hh).frame _ _ _ s1e fun c hc o e=>up c o (by rcases List.mem_cons.mp hc with rfl | hc; exact p3; rw [List.mem_singleton.mp hc]; exact p5) e) ((d2 A hh).frame _ _ _ s2e fun c hc o e=>up c o (by rcases List.mem_cons.mp hc with rfl | hc; exact p4; rw [List.mem_singleton.mp hc]; exact p6) e) tg fun c o c1 c2 c3 c4 e=>up c o c1 (ke c o c1 c2 c3 c4 e)
theorem oqU (hh : A.handled = none) (d1 : ∀ A : Around,A.handled = none -> Draws prog w A i1 [i1,l1] n1 P1 S1) (d2 : ∀ A : Around,A.handled = none -> Draws prog w A i2 [i2,l2] n2 P2 S2) (ap : Zap z TI TO i1 i2 l1 l2) {a b : Value} {Q : Fin -> Shared -> Prop}
  (hz : IsZip s.heap z TI TO .none) (hTI : IsPair s.heap TI (.ref i1) (.ref i2)) (hTO : IsPair s.heap TO a b) (t1 : S1 k s.heap) (t2 : S2 k s.heap) (hk : k = n1 \/ (k < n1 /\ k = n2))
  (q : ∀ h' e tk,(∀ c o,c ≠ z -> c ≠ TO -> c ≠ i1 -> c ≠ i2 -> s.heap.get? c = some o -> h'.get? c = some o) -> (∃ o,h'.get? e = some o /\ o.cls = .type "StopIteration") -> E (.ref e) { s with heap := h',toks := tk }) :
  wpAny (model prog w) A (Builtin.«zip.__next__» ⟨[.ref z],[]⟩) Q E s := by
 obtain ⟨⟨p1,p2,p3,p4,p5,p6⟩,⟨q1,q2,q3,q4,q5,q6⟩,r1,r2,r3,r4⟩ := ap
 show wpAny _ _ (field (.ref z) 2 >>= _) _ _ s
 refine wpAny_bind (wpAny_field (s := s) hz rfl (x := .bool false) rfl ?_)
 show wpAny _ _ (field (.ref z) 3 >>= _) _ _ s
 refine wpAny_bind (wpAny_field (s := s) hz rfl (x := .ref TI) rfl (wpAny_bind (wpAny_seqItems hTI rfl ?_)))
 show wpAny _ _ (Builtin.SmallTypes.ownedTupleIsFree (.ref z) >>= _) _ _ s
 unfold Builtin.SmallTypes.ownedTupleIsFree
 refine wpAny_bind (wpAny_bind (wpAny_field (s := s) hz rfl (x := .none) rfl (wpAny_pure ?_)))
 simp only [if_true]
 refine wpAny_bind (wpAny_rule (wpAny_bind (wpAny_field (s := s) hz rfl (x := .ref TO) rfl (wpAny_bind (wpAny_setField_rec hz (by simp) fun ha za sa=>?_)))))
 replace za : IsZip ha z TI TO .ellipsis := za
 simp only [List.zipIdx_cons,List.zipIdx_nil,List.forIn_cons,List.forIn_nil]
 refine wpAny_bind (wpAny_bind (wpAny_bind (wpAny_onRaise ?_)))
 show wpAny _ _ (Builtin.SmallTypes.nextOf (.ref i1) >>= _) _ _ _
 rcases hk with rfl | ⟨k1,rfl⟩
 ·refine wpAny_bind ((d1 A hh).done _ _ _ (still (d1 A hh) t1 sa.extBut p3 p5) fun hb e sb W' => ?_)
  obtain ⟨oe,ho,hc⟩ := W'
  have zb : IsZip hb z TI TO .ellipsis := sb _ _ p3.symm za
  have ez : e ≠ z := fun y=>by subst y; rw [zb] at ho; cases ho; simp at hc
  exact wpAny_setField_rec zb (by simp) fun hd _ sd=>q hd e _ (fun c o c1 _ c3 _ y=>sd.extBut _ _ c1 (sb _ _ c3 (sa.extBut _ _ c1 y))) ⟨oe,sd.extBut _ _ ez ho,hc⟩
 refine wpAny_bind ((d1 A hh).item _ _ _ _ k1 (still (d1 A hh) t1 sa.extBut p3 p5) fun x hb tb px s1b sb=>wpAny_pure ?_)
 have ob : IsPair hb TO a b := sb.extBut _ _ q4 (sa.extBut _ _ p2 hTO)
 refine wpAny_bind (wpAny_seqItems ob rfl (wpAny_bind (wpAny_updateSeq_pair ob fun hc oc sc=>wpAny_bind (wpAny_letGo (wpAny_pure ?_)))))
 refine wpAny_bind (wpAny_bind (wpAny_onRaise ?_))
 show wpAny _ _ (Builtin.SmallTypes.nextOf (.ref i2) >>= _) _ _ _
 have t2c := still (d2 A hh) (still (d2 A hh) (still (d2 A hh) t2 sa.extBut p4 p6) sb.extBut q6.symm r4) sc.extBut q5.symm r2
 refine wpAny_bind ((d2 A hh).done _ _ _ t2c fun hd e sd W' => ?_)
 obtain ⟨oe,ho,hce⟩ := W'
 have zd : IsZip hd z TI TO .ellipsis := sd _ _ p4.symm (sc.extBut _ _ p2.symm (sb.extBut _ _ p3.symm za))
 have ez : e ≠ z := fun y=>by subst y; rw [zd] at ho; cases ho; simp at hce
 exact wpAny_setField_rec zd (by simp) fun hf _ sf=>q hf e _ (fun c o c1 c2 c3 c4 y=>sf.extBut _ _ c1 (sd _ _ c4 (sc.extBut _ _ c2 (sb.extBut _ _ c3 (sa.extBut _ _ c1 y))))) ⟨oe,sf.extBut _ _ ez ho,hce⟩
theorem nq9 (hh : A.handled = none) (d1 : ∀ A : Around,A.handled = none -> Draws prog w A i1 [i1,l1] n1 P1 S1) (d2 : ∀ A : Around,A.handled = none -> Draws prog w A i2 [i2,l2] n2 P2 S2) (ap : Zap z TI TO i1 i2 l1 l2) :
  WalksT prog w A z [z,TI,TO,i1,i2,l1,l2] [z,TO,i1,i2] (min n1 n2) (fun i vals=>∃ x y,P1 i x /\ P2 i y /\ vals = #[x,y])
   (fun i h=>IsZip h z TI TO .none /\ IsPair h TI (.ref i1) (.ref i2) /\ (∃ a b,IsPair h TO a b) /\ S1 i h /\ S2 i h)
   (fun i T h=>IsZip h z TI TO (rawInt T) /\ IsPair h TI (.ref i1) (.ref i2) /\ (∃ a b,IsPair h TO a b) /\ S1 (i + 1) h /\ S2 (i + 1) h /\ T ≠ z /\ T ≠ TO /\ T ≠ i1 /\ T ≠ i2) where
 sub := fun c hc=>by simp at hc ⊢; rcases hc with rfl | rfl | rfl | rfl <;> simp
 frame := fun i h h' st hk=>by
  obtain ⟨hz,hTI,⟨a,b,hTO⟩,t1,t2⟩ := st
  exact ⟨hk z (by simp) _ hz,hk TI (by simp) _ hTI,⟨a,b,hk TO (by simp) _ hTO⟩,(d1 A hh).frame _ _ _ t1 fun c hc o e=>hk c (by simp at hc ⊢; rcases hc with rfl | rfl <;> simp) o e,(d2 A hh).frame _ _ _ t2 fun c hc o e=>hk c (by simp at hc ⊢; rcases hc with rfl | rfl <;> simp) o e⟩
 item := fun i s Q E hi st hQ=>by
  obtain ⟨hz,hTI,⟨a,b,hTO⟩,t1,t2⟩ := st
  have hT : s.TypeIs (.ref z) "zip" := ⟨_,hz,rfl⟩
  have lt : ∀ {c o},s.heap.get? c = some o -> s.heap.objs.size ≠ c := fun e=>Nat.ne_of_gt (Heap.lt_size e)
  unfold pyNext
  refine wpAny_bind (wpAny_attempt (wpAny_callSpecial?_slot (name := Str.ofString "__next__") hT F.slot_zip_next (wpAny_call_entry F.slot_zip_next hT F.entry_zip_next ?_ (F.args_zip_next_1 _))))
  refine pqx (A := A.in1) hh d1 d2 ap hz hTI hTO t1 t2 (Nat.lt_of_lt_of_le hi (Nat.min_le_left ..)) (Nat.lt_of_lt_of_le hi (Nat.min_le_right ..)) fun x y h' tk px py z' o' s1 s2 T' hk=>wpAny_pure ?_
  obtain ⟨o1,e1⟩ := (d1 A hh).live _ _ t1
  obtain ⟨o2,e2⟩ := (d2 A hh).live _ _ t2
  exact hQ s.heap.objs.size #[x,y] h' tk ⟨x,y,px,py,rfl⟩ (Nat.le_refl _) ⟨_,T',rfl,_,rfl⟩
   ⟨z',hk _ _ ap.a1.1 ap.a2.1 ap.a2.2.1 ap.a2.2.2.1 hTI,⟨_,_,o'⟩,s1,s2,lt hz,lt hTO,lt e1,lt e2⟩
   fun c o hc e=>hk c o (fun y=>hc (by simp [y])) (fun y=>hc (by simp [y])) (fun y=>hc (by simp [y])) (fun y=>hc (by simp [y])) e
 go := fun elts k pos i T s Q E hm hQ=>by
  obtain ⟨hz,hTI,⟨a,b,hTO⟩,t1,t2,_⟩ := hm
  obtain ⟨⟨p1,p2,p3,p4,p5,p6⟩,_⟩ := ap
  exact wpAny_letOwnedTupleGo_zip hz fun h' z' s' => hQ h' ⟨z',s'.extBut _ _ p1 hTI,⟨a,b,s'.extBut _ _ p2 hTO⟩,still (d1 A hh) t1 s'.extBut p3 p5,still (d2 A hh) t2 s'.extBut p4 p6⟩ fun c o hc e=>s'.extBut _ _ (fun y=>hc (by simp [y])) e
 apart := fun i T h hm hT=>by
  obtain ⟨_,_,_,_,_,t1,t2,t3,t4⟩ := hm
  simp only [List.mem_cons,List.not_mem_nil,or_false] at hT
  rcases hT with h | h | h | h
  ·exact t1 h
  ·exact t2 h
  ·exact t3 h
  ·exact t4 h
 done := fun s Q E st hQ=>by
  obtain ⟨hz,hTI,⟨a,b,hTO⟩,t1,t2⟩ := st
  have hT : s.TypeIs (.ref z) "zip" := ⟨_,hz,rfl⟩
  unfold pyNext
  refine wpAny_bind (wpAny_attempt (wpAny_callSpecial?_slot (name := Str.ofString "__next__") hT F.slot_zip_next (wpAny_call_entry F.slot_zip_next hT F.entry_zip_next ?_ (F.args_zip_next_1 _))))
  refine oqU (A := A.in1) hh d1 d2 ap hz hTI hTO t1 t2 (by omega) fun h' e tk hk W' => ?_
  obtain ⟨o,ho,hc⟩ := W'
  refine wpAny_bind (wpAny_isInstance (T := "StopIteration") (b := true) ⟨o,ho,hc⟩ isSubtype_stop (wpAny_pure (hQ h' tk fun c o hc e=>?_)))
  exact hk c o (fun y=>hc (by simp [y])) (fun y=>hc (by simp [y])) (fun y=>hc (by simp [y])) (fun y=>hc (by simp [y])) e
 self := fun i s Q E st hQ=>wpAny_pyIter_zip st.1 hQ
end
abbrev zA (h : Heap) (a : Addr) : Heap := h.push (titO a)
abbrev zB (h : Heap) (a b : Addr) : Heap := (zA h a).push (titO b)
abbrev zC (h : Heap) (a b : Addr) : Heap := (zB h a b).push { cls := .type "tuple", data := .seq #[.ref h.objs.size,.ref (zA h a).objs.size] }
abbrev zD (h : Heap) (a b : Addr) : Heap := (zC h a b).push { cls := .type "tuple", data := .seq #[.none,.none] }
abbrev zE (h : Heap) (a b : Addr) : Heap := (zD h a b).push { cls := .type "zip", data := .fields #[.none,.bool false,.bool false,.ref (zB h a b).objs.size,.ref (zC h a b).objs.size] }
theorem qqI (a b : Addr) (xs ys : Array Value) : Meets (Builtin.«zip.__new__» ⟨[.type "zip", .ref a,.ref b],[]⟩) (fun _ R s=>s.heap.IsTuple a xs /\ s.heap.IsTuple b ys /\ R (.ok (.ret (.ref (zD s.heap a b).objs.size))) { s with heap := zE s.heap a b }) :=
 .of_wp fun prog w A R s h=>by
  obtain ⟨hp,g,d,tk,os⟩ := s; obtain ⟨ha,hb,h⟩ := h
  have hsub := sub_zip
  have h1 : Heap.IsTuple (Shared.heap ⟨hp,g,d,tk,os⟩) a xs := ha
  have h2 : Heap.IsTuple (Shared.heap ⟨hp.push (titO a),g,d,tk,os⟩) b ys := Heap.IsTuple.push hb _
  wp_walk using wpAny_pyIter_tuple h1,wpAny_pyIter_tuple h2
  exact ⟨_,rfl,h⟩
section
variable {prog : Program} {w : World} {A : Around} {E : Value -> Shared -> Prop} {s : Shared}
theorem pq1 {a b : Addr} {xs ys : Array Value} {Q : Value -> Shared -> Prop} (ha : s.heap.IsTuple a xs) (hb : s.heap.IsTuple b ys)
  (h : ∀ h',IsZip h' (s.heap.objs.size + 4) (s.heap.objs.size + 2) (s.heap.objs.size + 3) .none -> IsPair h' (s.heap.objs.size + 2) (.ref s.heap.objs.size) (.ref (s.heap.objs.size + 1)) -> IsPair h' (s.heap.objs.size + 3) .none .none ->
   h'.IsTupleIter s.heap.objs.size a 0 -> h'.IsTupleIter (s.heap.objs.size + 1) b 0 -> (∀ c o,s.heap.get? c = some o -> h'.get? c = some o) -> Q (.ref (s.heap.objs.size + 4)) { s with heap := h' }) :
  wpAny (model prog w) A (call (.type "zip") [.ref a,.ref b]) Q E s := by
 refine callType_new F.called_zip (by decide) (F.typeCall_zip_2 _ _) (F.newCall_zip_2 _ _) (fun obj=>F.args_object_init_3 obj _ _) F.entry_zip_new (qqI a b xs ys) ⟨ha,hb,?_⟩
 have y1 : (zA s.heap a).objs.size = s.heap.objs.size + 1 := Heap.size_push ..
 have y2 : (zB s.heap a b).objs.size = s.heap.objs.size + 2 := by rw [Heap.size_push,y1]
 have y3 : (zC s.heap a b).objs.size = s.heap.objs.size + 3 := by rw [Heap.size_push,y2]
 have y4 : (zD s.heap a b).objs.size = s.heap.objs.size + 4 := by rw [Heap.size_push,y3]
 have up : ∀ {h : Heap} {o : Obj} {c : Addr} {u : Obj},h.get? c = some u -> (h.push o).get? c = some u := fun e=>Heap.get?_push_of_some _ e
 have e5 : (zE s.heap a b).get? (zD s.heap a b).objs.size = some _ := Heap.get?_push_size _ rfl
 have e4 : (zE s.heap a b).get? (zC s.heap a b).objs.size = some _ := up (Heap.get?_push_size _ rfl)
 have e3 : (zE s.heap a b).get? (zB s.heap a b).objs.size = some _ := up (up (Heap.get?_push_size _ rfl))
 have e2 : (zE s.heap a b).get? (zA s.heap a).objs.size = some _ := up (up (up (Heap.get?_push_size _ rfl)))
 have e1 : (zE s.heap a b).get? s.heap.objs.size = some _ := up (up (up (up (Heap.get?_push_size _ rfl))))
 show _ /\ _
 rw [y2,y3,y4] at e5
 rw [y1,y2] at e3
 rw [y3] at e4
 rw [y1] at e2
 rw [y4]
 exact ⟨⟨_,e5,rfl⟩,h _ e5 e3 e4 ⟨_,e1,rfl,rfl⟩ ⟨_,e2,rfl,rfl⟩ fun c o x=>up (up (up (up (up x))))⟩
end
def ItZ (K : PySem.W.Frag) (a b : Addr) (xs ys : List V) : It := ItW (min xs.length ys.length) (fun H=>SqT K H a xs /\ SqT K H b ys) fun i _ vs=>∃ x y,xs[i]? = some x /\ ys[i]? = some y /\ vs = [x,y]
theorem pqC {P : Program} {w : World} {K : PySem.W.Frag} {elts : List Expr} {k : Nat} {pos : Pos} {z TI TO i1 i2 a b : Addr} (xs ys : List V) (ap : Zap z TI TO i1 i2 a b) (h1 : a ≠ i1) (h2 : b ≠ i2) :
  Turn P w K (.Tuple elts k pos) (ItZ K a b xs ys) [z,TO,i1,i2,TI] z (fun i h=>IsZip h z TI TO .none /\ IsPair h TI (.ref i1) (.ref i2) /\ (∃ u v,IsPair h TO u v) /\ h.IsTupleIter i1 a i /\ h.IsTupleIter i2 b i) := by
 refine hq8 (fp := [z,TI,TO,i1,i2,a,b]) (wr := [z,TO,i1,i2]) (α := { q : Array Value × Array Value // q.1.size = xs.length /\ q.2.size = ys.length }) (Pt := fun q i vals=>∃ x y,q.1.1[i]? = some x /\ q.1.2[i]? = some y /\ vals = #[x,y])
  (Sn := fun q i h=>IsZip h z TI TO .none /\ IsPair h TI (.ref i1) (.ref i2) /\ (∃ a b,IsPair h TO a b) /\ (h.IsTupleIter i1 a i /\ h.IsTuple a q.1.1) /\ (h.IsTupleIter i2 b i /\ h.IsTuple b q.1.2))
  (Mid := fun q i T h=>IsZip h z TI TO (rawInt T) /\ IsPair h TI (.ref i1) (.ref i2) /\ (∃ a b,IsPair h TO a b) /\ (h.IsTupleIter i1 a (i + 1) /\ h.IsTuple a q.1.1) /\ (h.IsTupleIter i2 b (i + 1) /\ h.IsTuple b q.1.2) /\ T ≠ z /\ T ≠ TO /\ T ≠ i1 /\ T ≠ i2)
  (by simp) (fun b hb=>by simp at hb ⊢; rcases hb with rfl | rfl | rfl | rfl <;> simp) (fun A q hh=>?_) (fun A i s Q E st q=>wpAny_pyIter_zip st.1 q) (fun i h st b hb=>?_) (fun i h h' st kp=>?_) ?_ (fun q i h st=>⟨st.1,st.2.1,st.2.2.1,st.2.2.2.1.1,st.2.2.2.2.1⟩)
 ·have := nq9 (prog := P) (w := w) (A := A) hh (fun B hB=>hqO (prog := P) (w := w) (A := B) hB i1 a h1 q.1.1) (fun B hB=>hqO (prog := P) (w := w) (A := B) hB i2 b h2 q.1.2) ap
  rw [q.2.1,q.2.2] at this
  exact this
 ·obtain ⟨hz,hI,⟨u,v,hO⟩,⟨o1,e1,c1,d1⟩,o2,e2,c2,d2⟩ := st
  simp only [List.mem_cons,List.not_mem_nil,or_false] at hb
  rcases hb with rfl | rfl | rfl | rfl | rfl
  ·exact ⟨_,hz,fun v z=>by cases z⟩
  ·exact ⟨_,hO,fun v z=>by cases z⟩
  ·exact ⟨o1,e1,fun v z=>by rw [d1] at z; cases z⟩
  ·exact ⟨o2,e2,fun v z=>by rw [d2] at z; cases z⟩
  ·exact ⟨_,hI,fun v z=>by cases z⟩
 ·obtain ⟨hz,hI,⟨u,v,hO⟩,⟨o1,e1,r1⟩,o2,e2,r2⟩ := st
  exact ⟨kp z (by simp) _ hz,kp TI (by simp) _ hI,⟨u,v,kp TO (by simp) _ hO⟩,⟨o1,kp i1 (by simp) _ e1,r1⟩,o2,kp i2 (by simp) _ e2,r2⟩
 ·intro X hP hw hK i pins s σ H J hf st hok
  subst hP hw hK
  obtain ⟨l1,rv1,p1,hz1⟩ := J.tuple hok.1
  obtain ⟨l2,rv2,p2,hz2⟩ := J.tuple hok.2
  refine ⟨⟨(l1.toArray,l2.toArray),by have := rv1.length; simp; omega,by have := rv2.length; simp; omega⟩,⟨st.1,st.2.1,st.2.2.1,⟨st.2.2.2.1,p1⟩,st.2.2.2.2,p2⟩,?_⟩
  rintro vals ⟨x,y,hx,hy,rfl⟩
  have hx' : l1[i]? = some x := by simpa using hx
  have hy' : l2[i]? = some y := by simpa using hy
  have hi : i < xs.length := by have := rv1.length; have := (List.getElem?_eq_some_iff.mp hx').1; omega
  have hj : i < ys.length := by have := rv2.length; have := (List.getElem?_eq_some_iff.mp hy').1; omega
  obtain ⟨u,hu,ru⟩ := rv1.get (List.getElem?_eq_getElem hi)
  obtain ⟨v,hv,rv⟩ := rv2.get (List.getElem?_eq_getElem hj)
  rw [hx'] at hu
  rw [hy'] at hv
  cases hu
  cases hv
  exact ⟨[xs[i],ys[i]],(show 2 <= sizeLine by decide),.cons ru (.cons rv .nil),xs[i],ys[i],List.getElem?_eq_getElem hi,List.getElem?_eq_getElem hj,rfl⟩
section
variable {X : Cx} {K : PySem.W.Frag} {elts : List Expr} {kk : Nat} {tpos : Pos}
theorem rqy {n a b : Nat} (ha : a < n) (hb : b < n) : Zap (n + 4) (n + 2) (n + 3) n (n + 1) a b := by
 refine ⟨⟨?_,?_,?_,?_,?_,?_⟩,⟨?_,?_,?_,?_,?_,?_⟩,?_,?_,?_,?_⟩ <;> (show ¬ ((_ : Nat) = _)) <;> omega
def iZip (K : PySem.W.Frag) (ta : TA) : TI := fun σ H R=>ta σ H fun vs H1=>∃ a b xs ys,vs = [.ref a,.ref b] /\ SqT K H1 a xs /\ SqT K H1 b ys /\ R (ItZ K a b xs ys) H1
theorem tqa {a b : Expr} {ta : TA} {p pos : Pos} (h : X.K = K) (hg : Gl X "zip") (hm : X.mg "zip" = none) (ha : PA X [a,b] ta) (hs : starEach [a,b] X.env = [(false,eval a X.env),(false,eval b X.env)] := by rfl) (hs2 : starEach [b] X.env = [(false,eval b X.env)] := by rfl) : PI X (.Tuple elts kk tpos) (.Call (.Name "zip" p) [a,b] [] pos) (iZip K ta) := by
 subst h
 intro pins s σ H R I q
 refine Call_ (hqH I hg hm boot_zip (PyProof.Rows.callWith_type1 (thn (ha pos pins s σ H _ I q) fun us s1 W' => ?_) (by rw [hs,hs2]) (by rw [hs2]; rfl)))
 obtain ⟨vs,H1,I1,r1,q1⟩ := W'
 obtain ⟨a,b,xs,ys,e,hq1,hq2,q⟩ := q1
 subst e
 obtain ⟨u,v,rfl,ru,rv⟩ := vals2 r1
 cases ru
 cases rv
 obtain ⟨l1,rv1,p1,hz1⟩ := I1.tuple hq1
 obtain ⟨l2,rv2,p2,hz2⟩ := I1.tuple hq2
 refine pq1 (show s1.heap.IsTuple a l1.toArray from p1) (show s1.heap.IsTuple b l2.toArray from p2) fun h' he hI hO hi hj hk=>?_
 refine wpAny_pyIter_zip (s := { s1 with heap := h' }) he ?_
 have hal : a < s1.heap.objs.size := by obtain ⟨o,ho,_⟩ := p1; exact Heap.lt_size ho
 have hbl : b < s1.heap.objs.size := by obtain ⟨o,ho,_⟩ := p2; exact Heap.lt_size ho
 have hkept : Inv X pins σ H1 { s1 with heap := h' } := I1.kept (t' := s1.toks) hk
 refine ⟨s1.heap.objs.size + 4,[s1.heap.objs.size + 4,s1.heap.objs.size + 3,s1.heap.objs.size,s1.heap.objs.size + 1,s1.heap.objs.size + 2],_,_,H1,rfl,hkept,pqC xs ys (rqy hal hbl) (Nat.ne_of_lt hal) (Nat.ne_of_lt (Nat.lt_succ_of_lt hbl)),⟨he,hI,⟨_,_,hO⟩,hi,hj⟩,fun b hb=>?_,q⟩
 simp only [List.mem_cons,List.not_mem_nil,or_false] at hb
 have hb' : s1.heap.objs.size <= b := by
  rcases hb with rfl | rfl | rfl | rfl | rfl
  ·exact Nat.le_add_right _ _
  ·exact Nat.le_add_right _ _
  ·exact Nat.le_refl _
  ·exact Nat.le_add_right _ _
  ·exact Nat.le_add_right _ _
 exact I1.fpOk hb' (I1.hok.fresh hb')
variable {σ : St} {H : Hp} {D : Ends} {g : TG} {tb : TS} {aa : TA}
theorem qqp : (tFor (iZip K aa) g tb D σ H) = (aa σ H fun vs H1=>∃ a b xs ys,vs = [.ref a,.ref b] /\ SqT K H1 a xs /\ SqT K H1 b ys /\ LoopI (ItZ K a b xs ys) g tb D σ H1) := rfl
variable {p : Addr} {fv : St} {tt : TT} {te : TE} {Q : VK} {H1 : Hp} {fr : List Nat}
theorem nqj : (tComp2 K (iZip K aa) fr tt te σ H Q) = (aa σ H fun vs H1=>∃ a b xs ys,vs = [.ref a,.ref b] /\ SqT K H1 a xs /\ SqT K H1 b ys /\ ∀ p,H1 p = none -> CompI2 K (ItZ K a b xs ys) p (frV σ fr) tt te Q H1) := rfl
theorem pqG {a b : Addr} {xs ys zs : List V} (hxs : SqT K H1 a xs) (hys : SqT K H1 b ys) (hlen : zs.length <= sizeLine) (hp : H1 p = none) (hz : zs.length = min xs.length ys.length)
  (he : ∀ (i : Nat) (x y z : V),xs[i]? = some x -> ys[i]? = some y -> zs[i]? = some z -> ∀ (H' : Hp) (T : VK),Same H1 H' -> (∀ H'',Same H' H'' -> T z H'') -> te (some x :: some y :: fv) H' T)
  (hQ : ∀ H',Same H1 H' -> H' p = some (.lst zs) -> Q (.ref p) H') : CompI2 K (ItZ K a b xs ys) p fv tYes te Q H1 := by
 refine ⟨fun i m ws H2=>m = zs.length - i /\ i <= zs.length /\ ws = zs.take i /\ H2 p = some (.lst ws) /\ Same H1 H2,⟨zs.length,by simp,Nat.zero_le _,by simp,aqj,fun b o e=>by rw [aqo (aqm e hp)]; exact e⟩,?_⟩
 rintro i m ws H2 ⟨rfl,hi,rfl,hp2,sm⟩
 refine ⟨hp2,?_⟩
 have qx := sm.tup hxs
 have qy := sm.tup hys
 by_cases hlt : i < zs.length
 ·refine .inr ⟨⟨by rw [<- hz]; exact hlt,qx,qy⟩,by rw [List.length_take]; omega,fun x H3 y=>?_⟩
  obtain ⟨T,vs,rfl,hT,rfl,x,y,hx,hy,rfl⟩ := y
  have s3 : Same H2 (upd H2 T (.tup [x,y])) := fun b o e=>by rw [aqo (aqm e hT)]; exact e
  refine ⟨T,x,y,rfl,.inl (.inl aqj),?_⟩
  unfold tYes
  dsimp only
  rw [if_pos rfl]
  have hzi : zs[i]? = some zs[i] := by simp [hlt]
  refine he i x y _ hx hy hzi _ _ (sm.trans s3) fun H5 s5=>⟨s5 _ _ (s3 _ _ hp2),zs.length - (i + 1),by omega,rfl,hlt,?_,aqj,fun b o e=>?_⟩
  ·rw [List.take_add_one,hzi]; rfl
  ·rw [aqo (aqm e hp)]; exact s5 _ _ (s3 _ _ (sm _ _ e))
 ·have e : i = zs.length := by omega
  subst e
  refine .inl ⟨⟨hz,qx,qy⟩,hQ H2 sm ?_⟩
  rw [hp2,List.take_length]
end
section
variable {p : Addr} {fv : St} {tt : TT} {te : TE} {Q : VK} {H1 H : Hp} {fr : List Nat} {aa : TA} {σ : St}
theorem oqN : (tComp (iRng1 aa) fr tt te σ H Q) = (aa σ H fun vs H1=>∃ j : Int,vs = [.int j] /\ -(2 ^ 62) <= j /\ j < 2 ^ 62 /\ ∀ p,H1 p = none -> CompI (Itr 0 j.toNat) p (frV σ fr) tt te Q H1) := rfl
theorem iqr {n : Nat} (J : Nat -> List V -> Hp -> Prop) (hlen : n <= sizeLine) (h0 : J 0 [] (upd H1 p (.lst [])))
  (he : ∀ (i : Nat) (ys : List V) (H2 : Hp) (T : VK),i < n -> J i ys H2 -> H2 p = some (.lst ys) -> (∀ y H3,H3 p = some (.lst ys) -> J (i + 1) (ys ++ [y]) (upd H3 p (.lst (ys ++ [y]))) -> T y H3) -> te (some (.int (0 + (i : Int))) :: fv) H2 T)
  (hQ : ∀ ys H2,J n ys H2 -> H2 p = some (.lst ys) -> Q (.ref p) H2) : CompI (Itr 0 n) p fv tYes te Q H1 := by
 refine ⟨fun i m ys H2=>m = n - i /\ i <= n /\ ys.length = i /\ H2 p = some (.lst ys) /\ J i ys H2,⟨n,by simp,Nat.zero_le _,rfl,aqj,h0⟩,?_⟩
 rintro i m ys H2 ⟨rfl,hi,hyl,hp2,hJ⟩
 refine ⟨hp2,?_⟩
 by_cases hlt : i < n
 ·refine .inr ⟨hlt,by omega,fun x H3 y=>?_⟩
  obtain ⟨rfl,rfl⟩ := y
  unfold tYes
  dsimp only
  rw [if_pos rfl]
  exact he i ys _ _ hlt hJ hp2 fun y H5 hp5 hJ5=>⟨hp5,n - (i + 1),by omega,rfl,hlt,by rw [List.length_append,hyl]; rfl,aqj,hJ5⟩
 ·have e : i = n := by omega
  subst e
  exact .inl ⟨Nat.le_refl _,hQ ys H2 hJ hp2⟩
end
abbrev litO (t : Addr) : Obj := { cls := .type "list_iterator", data := .fields #[.ref t,.int 0 0] }
section
variable {prog : Program} {w : World} {A : Around} {E : Value -> Shared -> Prop} {s : Shared}
end
def ItZL (K : PySem.W.Frag) (a b : Addr) (xs ys : List V) : It := ItW (min xs.length ys.length) (fun H=>SqL K H a xs /\ SqL K H b ys) fun i _ vs=>∃ x y,xs[i]? = some x /\ ys[i]? = some y /\ vs = [x,y]
section
variable {X : Cx} {K : PySem.W.Frag} {elts : List Expr} {kk : Nat} {tpos : Pos}
def iZipL (K : PySem.W.Frag) (ta : TA) : TI := fun σ H R=>ta σ H fun vs H1=>∃ a b xs ys,vs = [.ref a,.ref b] /\ SqL K H1 a xs /\ SqL K H1 b ys /\ R (ItZL K a b xs ys) H1
variable {σ : St} {H : Hp} {D : Ends} {g : TG} {tb : TS} {aa : TA}
theorem pqE : (tFor (iZipL K aa) g tb D σ H) = (aa σ H fun vs H1=>∃ a b xs ys,vs = [.ref a,.ref b] /\ SqL K H1 a xs /\ SqL K H1 b ys /\ LoopI (ItZL K a b xs ys) g tb D σ H1) := rfl
variable {p : Addr} {fv : St} {tt : TT} {te : TE} {Q : VK} {H1 : Hp} {fr : List Nat}
theorem mq9 : (tComp2 K (iZipL K aa) fr tt te σ H Q) = (aa σ H fun vs H1=>∃ a b xs ys,vs = [.ref a,.ref b] /\ SqL K H1 a xs /\ SqL K H1 b ys /\ ∀ p,H1 p = none -> CompI2 K (ItZL K a b xs ys) p (frV σ fr) tt te Q H1) := rfl
end
section
variable {K : PySem.W.Frag} {p : Addr} {fv : St} {te : TE} {Q : VK} {H1 : Hp}
end
theorem nqn (t : Addr) (its : Array Value) : Meets (Builtin.«enumerate.__new__» ⟨[.type "enumerate", .ref t],[]⟩) (fun _ R s=>s.heap.IsList t its /\
  R (.ok (.ret (.ref (s.heap.push (litO t)).objs.size))) { s with heap := (s.heap.push (litO t)).push (enuO s.heap.objs.size) }) :=
 .of_wp fun prog w A R s h=>by
  obtain ⟨hp,g,d,tk,os⟩ := s; obtain ⟨hl,h⟩ := h
  have hsub := sub_enumerate
  wp_walk using wpAny_pyIter_list hl
  refine wpAny_stack_any fun _=>wpAny_pure ?_
  split
  ·rename_i z _ _ _ _ _
   cases (z == Value.type "enumerate") <;> (wp_walk using wpAny_pyIter_list hl) <;> exact ⟨_,rfl,h⟩
  ·wp_walk using wpAny_pyIter_list hl
   exact ⟨_,rfl,h⟩
section
variable {prog : Program} {w : World} {A : Around} {E : Value -> Shared -> Prop} {s : Shared}
theorem mqM {t : Addr} {its : Array Value} {Q : Value -> Shared -> Prop} (ht : s.heap.IsList t its)
  (h : ∀ h',IsEnum h' (s.heap.objs.size + 1) s.heap.objs.size 0 .none -> h'.IsListIter s.heap.objs.size t 0 -> (∀ b o,s.heap.get? b = some o -> h'.get? b = some o) -> Q (.ref (s.heap.objs.size + 1)) { s with heap := h' }) :
  wpAny (model prog w) A (call (.type "enumerate") [.ref t]) Q E s := by
 refine callType_new F.called_enumerate (by decide) (F.typeCall_enumerate_1 _) (F.newCall_enumerate_1 _) (fun obj=>F.args_object_init_2 obj _) F.entry_enumerate_new (nqn t its) ⟨ht,?_⟩
 have hz : (s.heap.push (litO t)).objs.size = s.heap.objs.size + 1 := Heap.size_push ..
 show _ /\ _
 rw [hz]
 have he : IsEnum ((s.heap.push (litO t)).push (enuO s.heap.objs.size)) (s.heap.objs.size + 1) s.heap.objs.size 0 .none := by
  have := Heap.get?_push_size (s.heap.push (litO t)) (o := enuO s.heap.objs.size) rfl
  rw [hz] at this
  exact this
 exact ⟨⟨_,he,rfl⟩,h _ he ⟨_,Heap.get?_push_of_some _ (Heap.get?_push_size _ rfl),rfl,rfl⟩ fun b o x=>Heap.get?_push_of_some _ (Heap.get?_push_of_some _ x)⟩
end
def ItEL (K : PySem.W.Frag) (a : Addr) (xs : List V) : It := ItW xs.length (fun H=>SqL K H a xs) fun i _ ys=>∃ v,xs[i]? = some v /\ ys = [.int (i : Int),v]
theorem mqV {P : Program} {w : World} {K : PySem.W.Frag} {elts : List Expr} {k : Nat} {pos : Pos} (a it e : Addr) (xs : List V) (h1 : a ≠ it) (h2 : e ≠ it) (h3 : e ≠ a) :
  Turn P w K (.Tuple elts k pos) (ItEL K a xs) [e,it] e (fun i h=>(∃ old,IsEnum h e it i old) /\ h.IsListIter it a i) := by
 refine hq8 (fp := e :: [it,a]) (α := { its : Array Value // its.size = xs.length }) (Pt := fun z i vals=>∃ t x,z.1[i]? = some x /\ vals = #[.int i t,x])
  (Sn := fun z i h=>(∃ old,IsEnum h e it i old) /\ (h.IsListIter it a i /\ h.IsList a z.1)) (Mid := fun z i T h=>(∃ x,IsEnumOut h e it ((i : Int) + 1) x T) /\ (h.IsListIter it a (i + 1) /\ h.IsList a z.1) /\ T ≠ e /\ T ≠ it)
  (by simp) (fun _ z=>z) (fun A z hh=>?_) (fun A i s Q E st q=>?_) (fun i h st b hb=>?_) (fun i h h' st kp=>?_) ?_ (fun z i h st=>⟨st.1,st.2.1⟩)
 ·have := WalksT.enumerateD (Draws.list (prog := P) (w := w) (A := A.in1) hh it a h1 z.1) e h2 (by simp [h2,h3]) (by simp)
  rw [z.2] at this
  exact this
 ·obtain ⟨⟨old,he⟩,_⟩ := st
  exact wpAny_pyIter_enum he q
 ·obtain ⟨⟨old,he⟩,o,ho,hc,hd⟩ := st
  rcases List.mem_cons.mp hb with rfl | hb
  ·exact ⟨_,he,fun v z=>by cases z⟩
  ·rw [List.mem_singleton.mp hb]
   exact ⟨o,ho,fun v z=>by rw [hd] at z; cases z⟩
 ·obtain ⟨⟨old,he⟩,o,ho,r⟩ := st
  exact ⟨⟨old,kp e (by simp) _ he⟩,o,kp it (by simp) o ho,r⟩
 ·intro X hP hw hK i pins s σ H J hf st hok
  subst hP hw hK
  obtain ⟨its,rv,p,hz⟩ := J.list hok
  refine ⟨⟨its.toArray,by have := rv.length; simp; omega⟩,⟨st.1,st.2,p.isList⟩,?_⟩
  rintro vals ⟨t,x,hx,rfl⟩
  have hx' : its[i]? = some x := by simpa using hx
  have hi : i < xs.length := by have := rv.length; have := (List.getElem?_eq_some_iff.mp hx').1; omega
  obtain ⟨u,hu,ru⟩ := rv.get (List.getElem?_eq_getElem hi)
  rw [hx'] at hu
  cases hu
  exact ⟨[.int (i : Int),xs[i]],(show 2 <= sizeLine by decide),.cons ⟨t,rfl⟩ (.cons ru .nil),xs[i],List.getElem?_eq_getElem hi,rfl⟩
section
variable {X : Cx} {K : PySem.W.Frag} {elts : List Expr} {kk : Nat} {tpos : Pos}
def iEnumL (K : PySem.W.Frag) (ta : TA) : TI := fun σ H R=>ta σ H fun vs H1=>∃ a xs,vs = [.ref a] /\ SqL K H1 a xs /\ R (ItEL K a xs) H1
theorem mqz {a : Expr} {ta : TA} {p pos : Pos} (h : X.K = K) (hg : Gl X "enumerate") (hm : X.mg "enumerate" = none) (ha : PA X [a] ta) (hs : starEach [a] X.env = [(false,eval a X.env)] := by rfl) : PI X (.Tuple elts kk tpos) (.Call (.Name "enumerate" p) [a] [] pos) (iEnumL K ta) := by
 subst h
 intro pins s σ H R I q
 refine Call_ (hqH I hg hm boot_enumerate (PyProof.Rows.callWith_type1 (thn (ha pos pins s σ H _ I q) fun us s1 W' => ?_) hs rfl))
 obtain ⟨vs,H1,I1,r1,q1⟩ := W'
 obtain ⟨a,xs,e,hq,q⟩ := q1
 subst e
 obtain ⟨u,rfl,ru⟩ := vals1 r1
 cases ru
 obtain ⟨its,rv,pt,hz⟩ := I1.list hq
 refine mqM pt.isList fun h' he hi hk=>?_
 refine wpAny_pyIter_enum (s := { s1 with heap := h' }) he ?_
 have hal : a < s1.heap.objs.size := by obtain ⟨o,_,ho,_⟩ := pt; exact Heap.lt_size ho
 have hkept : Inv X pins σ H1 { s1 with heap := h' } := I1.kept (t' := s1.toks) hk
 refine ⟨s1.heap.objs.size + 1,[s1.heap.objs.size + 1,s1.heap.objs.size],_,_,H1,rfl,hkept,mqV a s1.heap.objs.size (s1.heap.objs.size + 1) xs (Nat.ne_of_lt hal) (Nat.succ_ne_self _) (Nat.ne_of_gt (Nat.lt_succ_of_lt hal)),⟨⟨_,he⟩,hi⟩,fun b hb=>?_,q⟩
 simp only [List.mem_cons,List.not_mem_nil,or_false] at hb
 have hb' : s1.heap.objs.size <= b := by
  rcases hb with rfl | rfl
  ·exact Nat.le_succ _
  ·exact Nat.le_refl _
 exact I1.fpOk hb' (I1.hok.fresh hb')
variable {σ : St} {H : Hp} {D : Ends} {g : TG} {tb : TS} {aa : TA}
theorem pqH : (tFor (iEnumL K aa) g tb D σ H) = (aa σ H fun vs H1=>∃ a xs,vs = [.ref a] /\ SqL K H1 a xs /\ LoopI (ItEL K a xs) g tb D σ H1) := rfl
theorem mqQ {a : Addr} {xs : List V} (Pv : Nat -> St -> Hp -> Prop) (h0 : Pv 0 σ H) (hl : ∀ i σ H,i <= xs.length -> Pv i σ H -> SqL K H a xs)
  (hs : ∀ i v σ H T,xs[i]? = some v -> Pv i σ H -> H T = none -> g (.ref T) σ (upd H T (.tup [.int (i : Int),v])) fun σ2 H2=>tb { D with nx := Pv (i + 1),ct := Pv (i + 1),bk := D.nx } σ2 H2) (hd : ∀ σ H,Pv xs.length σ H -> D.nx σ H) : LoopI (ItEL K a xs) g tb D σ H :=
 kqC Pv h0 hl (fun i σ H T ys _ p hT hy=>by obtain ⟨v,hv,rfl⟩ := hy; exact hs i v σ H T hv p hT) hd
variable {p : Addr} {fv : St} {tt : TT} {te : TE} {Q : VK} {H1 : Hp} {fr : List Nat}
theorem mq6 : (tComp2 K (iEnumL K aa) fr tt te σ H Q) = (aa σ H fun vs H1=>∃ a xs,vs = [.ref a] /\ SqL K H1 a xs /\ ∀ p,H1 p = none -> CompI2 K (ItEL K a xs) p (frV σ fr) tt te Q H1) := rfl
theorem lqE {a : Addr} {xs : List V} (J : Nat -> List V -> Hp -> Prop) (hm : ∀ i ws H H',Same H H' -> J i ws H -> J i ws H') (hlen : xs.length <= sizeLine) (h0 : J 0 [] (upd H1 p (.lst []))) (hS : ∀ i ws H2,J i ws H2 -> SqL K H2 a xs)
  (he : ∀ (i : Nat) (x : V) (ws : List V) (H2 : Hp) (T : VK),xs[i]? = some x -> J i ws H2 -> H2 p = some (.lst ws) -> (∀ z H3,H3 p = some (.lst ws) -> J (i + 1) (ws ++ [z]) (upd H3 p (.lst (ws ++ [z]))) -> T z H3) -> te (some (.int (i : Int)) :: some x :: fv) H2 T)
  (hQ : ∀ ws H2,J xs.length ws H2 -> H2 p = some (.lst ws) -> Q (.ref p) H2) : CompI2 K (ItEL K a xs) p fv tYes te Q H1 := by
 refine ⟨fun i m ws H2=>m = xs.length - i /\ i <= xs.length /\ ws.length = i /\ H2 p = some (.lst ws) /\ J i ws H2,⟨xs.length,by simp,Nat.zero_le _,rfl,aqj,h0⟩,?_⟩
 rintro i m ws H2 ⟨rfl,hi,hwl,hp2,hJ⟩
 refine ⟨hp2,?_⟩
 have qx := hS _ _ _ hJ
 by_cases hlt : i < xs.length
 ·refine .inr ⟨⟨hlt,qx⟩,by omega,fun x H3 y=>?_⟩
  obtain ⟨T,vs,rfl,hT,rfl,x,hx,rfl⟩ := y
  have s3 : Same H2 (upd H2 T (.tup [.int (i : Int),x])) := fun b o e=>by rw [aqo (aqm e hT)]; exact e
  refine ⟨T,_,x,rfl,.inl (.inl aqj),?_⟩
  unfold tYes
  dsimp only
  rw [if_pos rfl]
  exact he i x ws _ _ hx (hm _ _ _ _ s3 hJ) (s3 _ _ hp2) fun z H5 hp5 hJ5=>⟨hp5,xs.length - (i + 1),by omega,rfl,hlt,by rw [List.length_append,hwl]; rfl,aqj,hJ5⟩
 ·have e : i = xs.length := by omega
  subst e
  exact .inl ⟨⟨rfl,qx⟩,hQ ws H2 hJ hp2⟩
theorem mqB : (tComp2 K (iEnum K aa) fr tt te σ H Q) = (aa σ H fun vs H1=>∃ a xs,vs = [.ref a] /\ SqT K H1 a xs /\ ∀ p,H1 p = none -> CompI2 K (ItE K a xs) p (frV σ fr) tt te Q H1) := rfl
end
end L2
namespace L2
open PySem PySem.Spec PySem.W PyProof.Rows
def SameD (h h' : Heap) : Prop := ∀ (b : Nat) (o : Obj),h.objs[b]? = some o -> ∃ o',h'.objs[b]? = some o' /\ o'.dict = o.dict
theorem SameD.refl (h : Heap) : SameD h h := fun _ o e=>⟨o,e,rfl⟩
theorem SameD.trans {a b c : Heap} (x : SameD a b) (y : SameD b c) : SameD a c := fun d o e=>by
 obtain ⟨o1,e1,q1⟩ := x d o e
 obtain ⟨o2,e2,q2⟩ := y d o1 e1
 exact ⟨o2,e2,q2.trans q1⟩
theorem SameD.push (h : Heap) (o : Obj) : SameD h (h.push o) := fun b u e=>by
 refine ⟨u,?_,rfl⟩
 have hb : b < h.objs.size := (Array.getElem?_eq_some_iff.mp e).1
 show (h.objs.push o)[b]? = some u
 rw [Array.getElem?_push,if_neg (Nat.ne_of_lt hb)]
 exact e
theorem SameD.upd (h : Heap) (a : Addr) {f : Obj -> Obj} (hf : ∀ o,(f o).dict = o.dict) : SameD h (h.update a f) := fun b u e=>by
 show ∃ o',(h.objs.modify a f)[b]? = some o' /\ _
 rw [Array.getElem?_modify]
 by_cases q : a = b
 ·rw [if_pos q,e]; exact ⟨f u,rfl,hf u⟩
 ·rw [if_neg q,e]; exact ⟨u,rfl,rfl⟩
theorem SameD.get {h h' : Heap} (x : SameD h h') {b : Addr} {o o' : Obj} (e : h.get? b = some o) (e' : h'.get? b = some o') : o'.dict = o.dict := by
 obtain ⟨o1,q,r⟩ := x b o (Heap.get?_some_iff.mp e).1
 have := (Heap.get?_some_iff.mp e').1
 rw [q] at this
 cases this
 exact r
def kd {α : Type} : Sem α -> Prop
 | .pure _=>True
 | .raise _=>False
 | .unsupported _=>True
 | .finish _=>True
 | .rule _ k=>kd (k ())
 | .at _ k=>kd (k ())
 | .load _ _ k=>∀ o,kd (k o)
 | .update _ _ f k=>(∀ o,(f o).dict = o.dict) /\ kd (k ())
 | .alloc _ k=>∀ a,kd (k a)
 | .loadIfAlive _ k=>∀ o,kd (k o)
 | .point _ k=>kd (k ())
 | .register _ _=>True
 | .fresh k=>∀ t,kd (k t)
 | .ask k=>∀ t,kd (k t)
 | .choose _ _ k=>∀ t,kd (k t)
 | .os _ _ _=>False
 | .call _ _ _ _ _=>False
 | .handled _ k=>∀ t,kd (k t)
 | .newGen _ _=>False
 | .genState _ _=>False
 | .resume _ _ _ _=>False
 | .yield _ _ _ _=>True
 | .stack k=>∀ t,kd (k t)
 | .fork _ _=>True
 | .thread k=>∀ t,kd (k t)
 | .await _ _ _ _ _=>True
theorem aqQ {α β : Type} {m : Sem α} {f : α -> Sem β} (a : kd m) (b : ∀ x,kd (f x)) : kd (m >>= f) := by
 show kd (Sem.bind m f)
 induction m with
 | pure x=>exact b x
 | raise _=>exact a.elim
 | unsupported _=>exact True.intro
 | finish _=>exact True.intro
 | rule _ k ih=>exact ih () a
 | «at» _ k ih=>exact ih () a
 | load _ _ k ih=>exact fun o=>ih o (a o)
 | update _ _ g k ih=>exact ⟨a.1,ih () a.2⟩
 | alloc _ k ih=>exact fun o=>ih o (a o)
 | loadIfAlive _ k ih=>exact fun o=>ih o (a o)
 | point _ k ih=>exact ih () a
 | register _ k ih=>exact True.intro
 | fresh k ih=>exact fun o=>ih o (a o)
 | ask k ih=>exact fun o=>ih o (a o)
 | choose _ _ k ih=>exact fun o=>ih o (a o)
 | os _ _ k ih=>exact a.elim
 | call _ _ _ _ k ih=>exact a.elim
 | handled _ k ih=>exact fun o=>ih o (a o)
 | newGen _ k ih=>exact a.elim
 | genState _ k ih=>exact a.elim
 | resume _ _ _ k ih=>exact a.elim
 | yield _ _ _ k ih=>exact True.intro
 | stack k ih=>exact fun o=>ih o (a o)
 | fork _ k ih=>exact True.intro
 | thread k ih=>exact fun o=>ih o (a o)
 | await _ _ _ _ k ih=>exact True.intro
theorem tqE {α : Type} {M : Model} {Γ : PySem.Ctx} (t : Sem α) : ∀ {Q : α -> Pos -> Shared -> Prop} {E : Value -> Pos -> Shared -> Prop} {p : Pos} {s : Shared},kd t -> Sem.wp M Γ t Q E p s ->
  Sem.wp M Γ t (fun a p' s' => Q a p' s' /\ SameD s.heap s'.heap) (fun _ _ _=>False) p s := by
 induction t with
 | pure x=>intro Q E p s _ h; exact ⟨h,.refl _⟩
 | raise _=>intro Q E p s a h; exact a.elim
 | unsupported _=>intro Q E p s _ h; exact h.elim
 | finish _=>intro Q E p s _ h; exact h.elim
 | rule _ k ih=>intro Q E p s a h; exact ih () a h
 | «at» _ k ih=>intro Q E p s a h; exact ih () a h
 | load _ _ k ih=>intro Q E p s a h; obtain ⟨o,e,h⟩ := h; exact ⟨o,e,ih o (a o) h⟩
 | update x _ g k ih =>
  intro Q E p s a h
  obtain ⟨e,h⟩ := h
  exact ⟨e,Sem.wp_mono M Γ (k ()) (fun _ _ _ z=>⟨z.1,(SameD.upd _ _ a.1).trans z.2⟩) (fun _ _ _ z=>z) _ _ (ih () a.2 h)⟩
 | alloc o k ih=>intro Q E p s a h; exact Sem.wp_mono M Γ (k _) (fun _ _ _ z=>⟨z.1,(SameD.push _ _).trans z.2⟩) (fun _ _ _ z=>z) _ _ (ih _ (a _) h)
 | loadIfAlive _ k ih=>intro Q E p s a h; exact ih _ (a _) h
 | point _ k ih=>intro Q E p s a h; exact ih () a h
 | register _ k ih=>intro Q E p s _ h; exact h.elim
 | fresh k ih=>intro Q E p s a h; exact ih _ (a _) h
 | ask k ih=>intro Q E p s a h; exact ih _ (a _) h
 | choose _ _ k ih=>intro Q E p s a h; exact ⟨h.1,ih _ (a _) h.2⟩
 | os _ _ k ih=>intro Q E p s a h; exact a.elim
 | call _ _ _ _ k ih=>intro Q E p s a h; exact a.elim
 | handled _ k ih=>intro Q E p s a h; exact ih _ (a _) h
 | newGen _ k ih=>intro Q E p s a h; exact a.elim
 | genState _ k ih=>intro Q E p s a h; exact a.elim
 | resume _ _ _ k ih=>intro Q E p s a h; exact a.elim
 | yield _ _ _ k ih=>intro Q E p s a h; exact h.elim
 | stack k ih=>intro Q E p s a h; exact ih _ (a _) h
 | fork _ k ih=>intro Q E p s a h; exact h.elim
 | thread k ih=>intro Q E p s a h; exact ih _ (a _) h
 | await _ _ _ _ k ih=>intro Q E p s a h; exact h.elim
theorem gqq {α : Type} {M : Model} {A : Around} {t : Sem α} {Q : α -> Shared -> Prop} {E : Value -> Shared -> Prop} {s : Shared} (k : kd t) (h : wpAny M A t Q E s) : wpAny M A t (fun a s' => Q a s' /\ SameD s.heap s'.heap) (fun _ _=>False) s :=
 fun Γ p hΓ=>tqE t k (h Γ p hΓ)
theorem lqI (v : Value) : kd (fieldsOf v) := by
 cases v <;> first | exact True.intro | (refine aqQ (fun _=>True.intro) fun o=>?_; split <;> exact True.intro)
theorem hqy (v : Value) (i : Nat) : kd (field v i) := by
 refine aqQ (lqI v) fun x=>?_
 split <;> exact True.intro
theorem fqo (v : Value) (i : Nat) (x : Value) : kd (setField v i x) := by
 cases v <;> first | exact True.intro | skip
 refine aqQ (fun _=>True.intro) fun o=>?_
 split
 ·split
  ·refine ⟨fun o=>?_,True.intro⟩
   unfold Obj.mapFields
   first | rfl | (split <;> rfl) | (cases o; rename_i d _; cases d <;> rfl)
  ·exact True.intro
 ·exact True.intro
theorem equ (e : Value) (f : Option Addr) : kd (setFlight e f) := by
 refine aqQ (hqy e 1) fun tb=>?_
 try dsimp only
 split
 ·exact fqo _ _ _
 ·exact True.intro
theorem fqi : ∀ l : List Env,kd (readyFrames l)
 | [] => True.intro
 | env :: outer=>by
  unfold readyFrames
  split
  ·refine aqQ (fun _=>True.intro) fun o=>?_
   try dsimp only
   split
   ·exact True.intro
   ·refine aqQ ?_ fun im=>?_
    ·unfold behindIsImport
     try dsimp only
     split
     ·exact True.intro
     ·split
      ·exact True.intro
      ·exact aqQ (hqy _ _) fun _=>True.intro
    ·refine aqQ ?_ fun bk=>?_
     ·unfold keptBack
      split
      ·split
       ·exact True.intro
       ·exact aqQ (aqQ (fun _=>True.intro) fun _=>True.intro) fun _=>by split <;> exact True.intro
      ·exact True.intro
     ·exact aqQ ⟨fun _=>rfl,True.intro⟩ fun _=>fqi outer
  ·exact True.intro
theorem mqW (env : Env) : kd (PySem.frameOf env) := by
 unfold PySem.frameOf
 refine aqQ (aqQ (fun _=>True.intro) fun _=>True.intro) fun l=>aqQ ?_ fun r=>?_
 ·unfold frameObject
  split
  ·exact True.intro
  ·exact aqQ (fqi _) fun _=>True.intro
 ·split <;> exact True.intro
theorem kqi (ty : String) (vs : List Value) : kd (newFields ty vs) := by
 unfold newFields newObj newObjAsIs
 try dsimp only
 split
 ·exact True.intro
 ·exact fun _=>True.intro
theorem hqb (e : Value) (env : Env) : kd (noteFrame e env) := by
 unfold noteFrame
 split
 ·refine aqQ (hqy e 1) fun hd=>?_
  try dsimp only
  have rest : ∀ (x : Unit) (f : Addr) (hd : Value),kd (do setField e 1 (<- EntryCells.newEntry hd (<- PySem.frameOf env) .none (rawInt f) .none (<- entryPlaceOf f (hd != .none))) : Sem Unit) := fun _ f hd=>by
   refine aqQ (mqW env) fun _=>aqQ ?_ fun _=>aqQ ?_ fun _=>fqo _ _ _
   ·unfold entryPlaceOf
    refine aqQ (fun _=>True.intro) fun acts=>?_
    split <;> exact True.intro
   ·unfold EntryCells.newEntry
    exact kqi _ _
  split
  ·refine aqQ (hqy _ _) fun g=>?_
   try dsimp only
   split
   ·exact True.intro
   ·exact aqQ (fqo _ _ _) fun _=>rest () _ _
  ·exact rest () _ _
 ·exact True.intro
theorem iq9 (env : Env) (e : Value) : kd (leaving env e) := aqQ (hqb e env) fun _=>equ e none
end L2
namespace L2
open PySem PySem.Spec PySem.W PySem.Calls PyProof.Rows PySem.Builtin PySem.Builtin.ObjectAttr
def errTail : List Value -> Bool
 | .ref _ :: r=>errTail r
 | l=>l == vErr
theorem jqk (self : Value) : ∀ {l : List Value},errTail l = true -> refuseLoop self "__setattr__" l = pure ()
 | [],e=>by cases e
 | v :: r,e=>by
  cases v <;> first | (rw [refuseLoop_ref]; exact jqk self (by unfold errTail at e; exact e)) | (rw [show (_ :: r) = vErr from beq_iff_eq.mp e]; exact PySem.F.store_ValueError.passes self)
theorem oqz : ∀ {l : List Value},errTail l = true -> l.contains (.type "object") = true
 | [],e=>by cases e
 | v :: r,e=>by
  cases v <;> first | (rw [List.contains_cons,oqz (l := r) (by unfold errTail at e; exact e),Bool.or_true]) | (rw [show (_ :: r) = vErr from beq_iff_eq.mp e]; decide +kernel)
def overErr (K : Frag) (C : Addr) : Bool := (clsIn K C).any fun cd=>errTail cd.mro
section
variable {prog : Program} {w : World} {A : Around} {E : Value -> Shared -> Prop} {s : Shared} {K : Frag} {x C : Addr} {name : Str} {v : Value} {ox : Obj} {od : Option Obj}
theorem qqv {tk : Tok} {R : Result -> Shared -> Prop} (X : K.In s.heap) (I : PySem.W.InstAt s.heap x ox C od) (hp : overErr K C = true) (ht : takerIn K C name = some none)
  (h : ∀ b,wpAny (model prog w) A.in1 (storeInOwnDict (.ref x) (.ref C) (.str name tk) name v b)
   (fun fin s' => match fin with | .done f=>R (.ok f) s' | .again c' => c'.quiet = true /\ codeAny (model prog w) A c' R s') (fun e s' => R (.error e) s') s) :
  codeAny (model prog w) A (.call (.builtin "object.__setattr__") ⟨[.ref x,.str name tk,v],[]⟩) R s := by
 have SF := PySem.F.store_object
 obtain ⟨cd,hc,ho⟩ := any_some hp
 have ne : cd.mro.isEmpty = false := by cases q : cd.mro with | nil=>rw [q] at ho; cases ho | cons _ _=>rfl
 have sub : Looks (model prog w) s.heap (isInstance (.ref x) (.type "object")) true := I.type.andThen (looks_mroIn X (by unfold mroIn; rw [hc,Option.bind_some,if_neg (by rw [ne]; decide),oqz ho]))
 refine codeAny_call_builtin SF.slot.plain SF.entry (@check_slot (model prog w) _ _ s "object.__setattr__" "object" "__setattr__" (.ref x) [.str name tk,v] [] _ SF.kind SF.split sub (SF.args (.ref x) (.str name tk) v) ?_)
 obtain ⟨attr,ha,hr⟩ := Option.bind_eq_some_iff.mp ht
 have hm : Looks (model prog w) s.heap (mroOf (.ref C)) cd.mro := (looks_clsIn X hc).andThen .now
 have L3 : Looks (model prog w) s.heap (storeTaker? attr) none := by
  cases attr with
  | none=>exact .now
  | some a =>
   obtain ⟨b,hb,hbn⟩ := Option.map_eq_some_iff.mp hr
   refine (looks_takesIn X hb).andThen ?_
   cases b with
   | true=>cases hbn
   | false=>exact .now
 rw [osa_eq,refuse_eq]
 refine wpAny_bind (wpAny_bind (I.type.here (wpAny_bind (hm.here ?_))))
 rw [jqk _ ho]
 refine wpAny_pure (wpAny_bind (I.type.here (wpAny_bind ((looks_findIn X ha).here (wpAny_bind (L3.here ?_))))))
 exact h _
theorem qq3 {Q : Unit -> Shared -> Prop} (X : K.In s.heap) (hx : s.heap.get? x = some ox) (hc : ox.cls = .ref C) (hd : ox.dict = none) (hn : notCls ox = true)
  (hs : findIn K (.ref C) "__setattr__" = some (some (.builtin "object.__setattr__"))) (hp : overErr K C = true) (ht : takerIn K C name = some none) (hh : hasDictIn K C = true)
  (h : ∀ h' tk,h'.get? x = some { ox with dict := some s.heap.objs.size } -> h'.Ns1 s.heap.objs.size (fun y=>if y = name then some v else none) -> (∀ b o,b ≠ x -> s.heap.get? b = some o -> h'.get? b = some o) -> Q () { s with heap := h',toks := tk }) :
  wpAny (model prog w) A (setAttr (.ref x) name v) Q E s := by
 have J : PySem.W.InstAt s.heap x ox C none := ⟨hx,hc,hn,by rw [hd]; exact True.intro⟩
 refine PySem.W.set_plain X J hs (qqv (s := { s with toks := s.toks + 1 }) X J hp ht fun b=>?_)
 obtain ⟨cd,hcd,hd'⟩ := any_some hh
 obtain ⟨oc,odi,oda,osl⟩ := ox
 dsimp only at hc hd
 subst hc hd
 refine wpAny_bind (wpAny_pure (wpAny_bind (wpAny_bind (wpAny_loadPart hx (wpAny_bind (Looks.here (s := { s with toks := s.toks + 1 }) (looks_clsIn X hcd) ?_))))))
 rw [hd']
 have nc : ∀ c,oda ≠ .cls c := fun c q=>by subst q; cases hn
 have hx₁ : (s.heap.push { cls := .type "dict", data := .dict #[] }).get? x = some ⟨.ref C,none,oda,osl⟩ := Heap.get?_push_of_some _ hx
 have hxs : x ≠ s.heap.objs.size := Nat.ne_of_lt (Heap.lt_size hx)
 have hgd : ((s.heap.push { cls := .type "dict", data := .dict #[] }).update x fun o=>{ o with dict := some s.heap.objs.size }).get? s.heap.objs.size = some { cls := .type "dict", data := .dict #[] } :=
  (Heap.get?_update_ne _ _ _ _ hxs.symm).trans (Heap.get?_push_at rfl rfl)
 have hnd : ((s.heap.push { cls := .type "dict", data := .dict #[] }).update x fun o=>{ o with dict := some s.heap.objs.size }).Ns s.heap.objs.size (fun _=>none) :=
  ⟨_,#[],_,hgd,rfl,fun e he=>absurd he (by simp),fun _=>rfl⟩
 have fin : wpAny (model prog w) A.in1 (storeInDict s.heap.objs.size (.str name (s.toks)) name v)
   (fun fin s' => match fin with | .done f=>(match (Except.ok f : Result) with | .ok (.ret _)=>Q () s' | .ok _=>False | .error e=>E e s') | .again c' => c'.quiet = true /\ codeAny (model prog w) A c' (fun r s' => match r with | .ok (.ret _)=>Q () s' | .ok _=>False | .error e=>E e s') s') (fun e s' => E e s')
   { s with heap := ((s.heap.push { cls := .type "dict", data := .dict #[] }).update x fun o=>{ o with dict := some s.heap.objs.size }),toks := s.toks + 1 } := by
  unfold storeInDict newKeyGuard
  refine wpAny_bind (wpAny_pure (wpAny_bind (wpAny_nsSet1 (s := { s with heap := ((s.heap.push { cls := .type "dict", data := .dict #[] }).update x fun o=>{ o with dict := some s.heap.objs.size }),toks := s.toks + 1 }) (Heap.Ns1.of_empty hnd) fun h' hn' hs' => ?_)))
  obtain ⟨oD,esD,epD,hoD,hdD,hcD⟩ := hn'.count (Within.cons name v Within.nil)
  refine wpAny_bind (wpAny_lookBehind hoD (by rw [hdD]; exact pastItsLine_dict (Nat.le_trans hcD (by rw [List.length_cons,List.length_nil,sizeLine_eq]; omega))) ?_)
  refine wpAny_pure (h h' _ ?_ hn' fun b o hb e=>?_)
  ·refine (hs'.2 x hxs).trans (Heap.get?_update_self _ hx₁ ?_)
   have hfr := (Heap.get?_some_iff.mp hx).2
   cases oda <;> first | rfl | exact hfr
  ·exact (hs'.2 b (Nat.ne_of_lt (Heap.lt_size e))).trans ((Heap.get?_update_ne _ _ _ _ hb).trans (Heap.get?_push_of_some _ e))
 cases oda <;> first | exact absurd rfl (nc _) | exact wpAny_bind (wpAny_alloc' (wpAny_bind (wpAny_update' hx₁ (wpAny_pure fin))))
end
end L2
namespace L2
open PySem PySem.Spec PySem.W PySem.Calls PyProof.Rows
def excInI (K : Frag) (C : Addr) (bmB : List Value) (newId : String) (fI : Addr) : Bool := match K.lookup C with
 | some o=>(match o.data with
  | .cls cd=>o.cls == .type "type" && cd.mro.head? == some (.ref C) && o.slots.size == 6 && o.slots[4]? == some (some (.builtin newId)) && !cd.hasDel && tailIn K bmB cd.mro.tail && nsOkIn K cd.ns && nsIn K cd.ns "__init__" == some (some (.ref fI))
  | _=>false)
 | _=>false
theorem qq4 {K : Frag} {h : Heap} {N : Addr} {m : Str -> Option Value} {n : Str} {v : Value} (X : K.In h) (G : h.Ns N m) (e : nsIn K N n = some (some v)) : m n = some v := by
 obtain ⟨o,es,ep,ho,hd,_,hf⟩ := G
 unfold nsIn at e
 split at e
 ·next q =>
  have := X _ _ q
  rw [ho] at this
  cases this
  cases hd
  split at e
  ·next he =>
   cases e
   rw [<- hf]
   unfold nsFind findBy
   rw [<- Array.find?_toList,he]
   rfl
  ·split at e <;> cases e
 ·cases e
theorem excObjI {K : Frag} {h : Heap} {C fI : Addr} {bb : List Value} {nid : String} (kin : K.In h) (q : excInI K C bb nid fI = true) :
  ∃ tl N nm qn bs hd sn sub ab col dd k0 k1 k2 k3 k5,h.get? C = some (excClassObj nm qn C N bs tl hd sn sub ab col dd k0 k1 k2 k3 k5 nid) /\ (∃ mN,h.Ns N mN /\ mN "__init__" = some (.ref fI)) /\ OwnTail h bb tl := by
 unfold excInI at q
 generalize lk : K.lookup C = r at q
 obtain _ | ⟨cl,dd,dat,⟨sl⟩⟩ := r
 ·cases q
 cases dat <;> first | cases q | skip
 next cd =>
 simp only [beq_iff_eq,Bool.and_eq_true,Bool.not_eq_true'] at q
 obtain ⟨⟨⟨⟨⟨⟨⟨rfl,e0⟩,e1⟩,e2⟩,e3⟩,e4⟩,e5⟩,e6⟩ := q
 obtain ⟨nm,bs,mro,ns,qn,hd,sn,sub,ab,col,del⟩ := cd
 cases e3
 obtain _ | ⟨m0,tl⟩ := mro
 ·cases e0
 cases e0
 obtain _ | ⟨a0,_ | ⟨a1,_ | ⟨a2,_ | ⟨a3,_ | ⟨a4,_ | ⟨a5,_ | ⟨a6,l⟩⟩⟩⟩⟩⟩⟩ := sl <;> first | cases e1 | skip
 cases e2
 exact ⟨tl,ns,nm,qn,bs,hd,sn,sub,ab,col,dd,a0,a1,a2,a3,a5,kin _ _ lk,⟨_,.of_isNs (isNs_of_in kin e5),qq4 kin (.of_isNs (isNs_of_in kin e5)) e6⟩,tail_of_in kin e4⟩
abbrev newExc (C t : Addr) : Obj := { cls := .ref C,data := .fields #[.ref t,.none,.none,.none,.bool false,.none] }
abbrev newTup (vs : List Value) : Obj := { cls := .type "tuple", data := .seq vs.toArray }
section
variable {prog : Program} {w : World} {A : Around} {E : Value -> Shared -> Prop} {h : Heap} {g : Array GenState} {d : Drawn} {t : Nat} {os : OsState}
variable {nm q : Str} {C N : Addr} {bs bm bmB : List Value} {hdct : Bool} {sn : List Str} {sub : List Value} {ab : Bool} {col : Option Bool} {dd : Option Addr} {k0 k1 k2 k3 k5 : Option Value} {B newId initId : String}
theorem iqH (F : ExcBaseFacts B newId initId bmB) (T : OwnTail h bmB bm) {mN : Str -> Option Value} {rest : List Value} {fI : Addr} {oI : Obj} {Q : Fin -> Shared -> Prop}
  (hC : h.get? C = some (excClassObj nm q C N bs bm hdct sn sub ab col dd k0 k1 k2 k3 k5 newId)) (hn : h.Ns N mN) (hi : mN "__init__" = some (.ref fI))
  (hfI : h.get? fI = some oI) (hfc : oI.cls = .type "function")
  (hq : wpAny (model prog w) A (call (.ref fI) (.ref (h.objs.size + 1) :: rest)) (fun r s' => r = .none /\ Q (.done (.ret (.ref (h.objs.size + 1)))) s') E ⟨(h.push (newTup rest)).push (newExc C h.objs.size),g,d,t,os⟩) (hrest : rest.length <= sizeLine) :
  wpAny (model prog w) A (Builtin.«type.__call__» ⟨.ref C :: rest,[]⟩) Q E ⟨h,g,d,t,os⟩ := by
 repeat (first | with_reducible refine wpAny_loadPart_at hC ?_ | with_reducible refine wpAny_madeBy_exc hC ?_ | wp_step)
 refine codeAny_call_builtin_code (Code.quiet_builtin _ F.quiet) (wpAny_check_new_subU F F.hasB T hC ?_)
 refine codeAny_exc_new_subU F F.hasB F T hC ?_ hrest
 show wpAny _ _ _ _ _ _
 have kp : ∀ b o,h.get? b = some o -> ((h.push (newTup rest)).push (newExc C h.objs.size)).get? b = some o := fun b o e=>Heap.get?_push_of_some _ (Heap.get?_push_of_some _ e)
 have hC₁ := kp _ _ hC
 have hfI₁ := kp _ _ hfI
 have hn₁ : ((h.push (newTup rest)).push (newExc C h.objs.size)).Ns N mN := hn.keeps kp
 have hget : ((h.push (newTup rest)).push (newExc C h.objs.size)).get? (h.objs.size + 1) = some (newExc C h.objs.size) := by heap_get
 have hcC : (Value.ref C :: bm).contains (.ref C) = true := by simp
 have T₁ := T.keeps kp
 unfold isInstance
 repeat (first | with_reducible refine wpAny_loadPart_at hget ?_ | (with_reducible refine wpAny_isSubtype_exc hC₁ ?_; rw [hcC]) | wp_step)
 show wpAny _ _ (typeLookup (.ref C) _) _ _ _
 refine wpAny_typeLookup_tail hC₁ hn₁ T₁ F.mroIs F.init.lookup ?_
 rw [hi]
 refine wpAny_holding (wpAny_bind ?_)
 unfold bindSpecial
 refine wpAny_bind (wpAny_typeOf (T := "function") ⟨_,hfI₁,hfc⟩ ?_)
 rw [if_pos (by decide)]
 refine wpAny_pure (wpAny_bind (wpAny_mono hq (fun r s' hr=>?_) fun _ _ x=>x))
 obtain ⟨rfl,hQ⟩ := hr
 wp_walk
 exact hQ
theorem nq5 (F : ExcBaseFacts B newId initId bmB) (T : OwnTail h bmB bm) {mN : Str -> Option Value} {rest : List Value} {fI : Addr} {oI : Obj} {Q : Value -> Shared -> Prop}
  (hC : h.get? C = some (excClassObj nm q C N bs bm hdct sn sub ab col dd k0 k1 k2 k3 k5 newId)) (hn : h.Ns N mN) (hi : mN "__init__" = some (.ref fI))
  (hfI : h.get? fI = some oI) (hfc : oI.cls = .type "function")
  (hq : wpAny (model prog w) (A.under (.builtin "type.__call__" ⟨.ref C :: rest,[]⟩)) (call (.ref fI) (.ref (h.objs.size + 1) :: rest)) (fun r s' => r = .none /\ Q (.ref (h.objs.size + 1)) s') E ⟨(h.push (newTup rest)).push (newExc C h.objs.size),g,d,t,os⟩) (hrest : rest.length <= sizeLine) :
  wpAny (model prog w) A (call (.ref C) rest) Q E ⟨h,g,d,t,os⟩ := by
 have f1 := tc_lookup
 have f2 := tc_bind (.ref C)
 have hT : (⟨h,g,d,t,os⟩ : Shared).TypeIs (.ref C) "type" := ⟨_,hC,rfl⟩
 refine wpAny_call (codeAny_of_tree ?_)
 show wpAny _ _ (callAny (.ref C) _) _ _ _
 repeat (any_goals (first | assumption | with_reducible refine wpAny_loadPart_at hC ?_ | wp_step))
 refine ⟨rfl,?_⟩
 exact codeAny_call_builtin_at (Code.quiet_builtin _ (by decide +kernel)) entry_typeCall (wpAny_check_type_call_sub hC (iqH (hrest := hrest) F T hC hn hi hfI hfc hq))
theorem jqM {M : Model} {s : Shared} {env : Env} {x : Sem Value} {Q : Flow -> Shared -> Prop} (hbase : bm.contains (.type "BaseException") = true) (hh : A.handled = none)
  (h : wpAny M A x (fun v s₁=>∃ e t dx sl,v = .ref e /\ s₁.heap.get? C = some (excClassObj nm q C N bs bm hdct sn sub ab col dd k0 k1 k2 k3 k5 newId) /\
   s₁.heap.get? e = some ⟨.ref C,dx,.fields #[.ref t,.none,.none,.none,.bool false,.none],sl⟩ /\ E (.ref e) s₁) E s) :
  wpAny M A (raiseStmt env (some x) none) Q E s := by
 have hcB : (Value.ref C :: bm).contains (.type "BaseException") = true := by rw [List.contains_cons,hbase,Bool.or_true]
 unfold raiseStmt
 refine wpAny_bind (wpAny_mono h (fun v s₁ h₁=>?_) fun _ _ x=>x)
 obtain ⟨e,t,dx,sl,rfl,hC,he,hE⟩ := h₁
 obtain ⟨hp,g,d,tk,os⟩ := s₁
 repeat (first | with_reducible refine wpAny_loadPart_at he ?_ | with_reducible refine wpAny_loadPart_at hC ?_ | (with_reducible refine wpAny_isSubtype_exc hC ?_; rw [hcB]) | wp_step)
 exact wpAny_raiseNew_none hh hE
end
def exNew (e C : Addr) : HO := .ext fun h=>∃ t sl,h.get? e = some ⟨.ref C,none,.fields #[.ref t,.none,.none,.none,.bool false,.none],sl⟩
def exSet (e C d : Addr) : HO := .ext fun h=>∃ t sl,h.get? e = some ⟨.ref C,some d,.fields #[.ref t,.none,.none,.none,.bool false,.none],sl⟩
def exC (a C : Addr) (d : Option Addr) : HO := .ext fun h=>∃ o,h.get? a = some o /\ o.cls = .ref C /\ (∀ x,d = some x -> o.dict = some x) /\ notCls o = true
structure ExSt (K : Frag) (C : Addr) (f : Str) : Prop where
 sa : findIn K (.ref C) "__setattr__" = some (some (.builtin "object.__setattr__"))
 po : overErr K C = true
 na : findIn K (.ref C) f = some none
 hd : hasDictIn K C = true
def sFldE (K : Frag) (ta tv : TE) (f : Str) : TS := fun D σ H=>tv σ H fun y H1=>ta σ H1 fun x H2=>∃ a C,x = .ref a /\ H2 a = some (exNew a C) /\ ExSt K C f /\ ∀ d,H2 d = none -> D.nx σ (upd (upd H2 a (exSet a C d)) d (.xd [(f,y)]))
section
variable {X : Cx} {ta tv : TE} {o value : Expr} {f : Str} {pos pos' : Pos}
theorem rqK (ha : PE X o ta) (hv : PE X value tv) (hs : swapsWith value (some (.Attribute o f pos')) pos.line X.env = pure false) : PS X (.Assign [.Attribute o f pos'] value pos) (sFldE X.K ta tv f) := by
 intro pins s σ H D I h
 refine plainObj_wpAny_Assign_Attribute (thn (hv pins s σ H _ I h) fun u s1 ⟨y,H1,I1,ry,q⟩=>thn (ha pins s1 σ H1 _ I1 q) fun ov s2 W' => ?_) hs
 obtain ⟨x,H2,I2,rx,a,C,ex,ea,c,q2⟩ := W'
 subst ex
 obtain rfl : ov = Value.ref a := rx
 obtain ⟨⟨t,sl,hx⟩,_,_⟩ := I2.hok a _ ea
 refine qq3 I2.kIn hx rfl rfl rfl c.sa c.po (NoAttr.taker (show NoAttr X.K C f from c.na)) c.hd fun h' tk e1 e2 e3=>?_
 have hd : H2 s2.heap.objs.size = none := I2.hok.fresh (Nat.le_refl _)
 have na : ∀ b u,H2 b = some u -> u ≠ exNew a C -> b ≠ a := fun b u q n z=>by subst z; rw [ea] at q; exact n (Option.some.inj q).symm
 have nd : ∀ b u,s2.heap.get? b = some u -> b ≠ s2.heap.objs.size := fun b u q=>Nat.ne_of_lt (Heap.lt_size q)
 have nf : ∀ b,H2 b = none -> b ≠ a := fun b q z=>by subst z; rw [ea] at q; cases q
 have ndh : ∀ b u,H2 b = some u -> b ≠ s2.heap.objs.size := fun b u q=>aqm q hd
 refine ⟨σ,upd (upd H2 a (exSet a C s2.heap.objs.size)) s2.heap.objs.size (.xd [(f,y)]),I2.un (t' := tk) ⟨fun b ob q n _ _=>e3 b ob (nf b n) q,fun b ob q n _ _=>⟨ob.slots,e3 b ob (nf b n) q⟩,fun b ob q n _=>?_,fun b ob q _=>?_,fun b xs q=>?_,fun b ob u q=>?_,fun b ps q=>?_⟩ (fun b u q=>?_),q2 _ hd⟩
 ·rw [aqo (nd b ob q),aqo (nf b n)]; exact n
 ·by_cases z : b = a
  ·subst z; exact ⟨_,e1⟩
  ·exact ⟨ob,e3 b ob z q⟩
 ·rw [aqo (ndh b _ q),aqo (na b _ q (by intro z; cases z))]; exact q
 ·rw [aqo (ndh b _ q),aqo (na b _ q (by intro z; cases z))]; exact q
 ·exact ⟨#[],by rw [aqo (ndh b _ q),aqo (na b _ q (by intro z; cases z)),Array.append_empty]; exact q⟩
 ·by_cases zd : b = s2.heap.objs.size
  ·subst zd
   rw [aqj] at q
   cases q
   refine ⟨_,e2,fun g=>?_⟩
   by_cases z : g = f
   ·subst z
    rw [if_pos rfl]
    simp only [List.lookup,beq_self_eq_true]
    exact ry
   ·rw [if_neg z]
    simp only [List.lookup,beq_eq_false_iff_ne.mpr z]
    exact True.intro
  ·rw [aqo zd] at q
   by_cases za : b = a
   ·subst za
    rw [aqj] at q
    cases q
    exact ⟨⟨t,sl,e1⟩,⟨_,e1⟩,fun h1 h2 ⟨t,sl,z⟩ k=>⟨t,sl,k _ z⟩⟩
   ·rw [aqo za] at q
    refine (I2.hok b u q).stay (fun c v hc z=>e3 c v ?_ z) (fun c z=>?_) fun c xs z=>?_
    ·rcases hc with rfl | hc
     ·exact za
     ·exact na c _ hc (by intro z; cases z)
    ·rw [aqo (ndh c _ z),aqo (na c _ z (by intro z; cases z))]; exact z
    ·rw [aqo (ndh c _ z),aqo (na c _ z (by intro z; cases z))]; exact z
theorem rql {K : Frag} {D : Ends} {σ : St} {H : Hp} : (sFldE K ta tv f D σ H) = (tv σ H fun y H1=>ta σ H1 fun x H2=>∃ a C,x = .ref a /\ H2 a = some (exNew a C) /\ ExSt K C f /\ ∀ d,H2 d = none -> D.nx σ (upd (upd H2 a (exSet a C d)) d (.xd [(f,y)]))) := rfl
end
def forget (H : Hp) (a : Addr) : Hp := fun b=>if b = a then none else H b
theorem lqe {H : Hp} {a : Addr} : forget H a a = none := if_pos rfl
theorem bqV {H : Hp} {a b : Addr} (h : b ≠ a) : forget H a b = H b := if_neg h
structure FlownN (P : Program) (w : World) (base : Heap) (outer : List Env) (H : Hp) (s : Shared) (a t C : Addr) (d : Option Addr) (B : Heap) (H' : Hp) (s' : Shared) : Prop where
 f : Flown P w base outer H s a t C B H' s'
 dc : ∀ x,d = some x -> ∃ oe,s'.heap.get? a = some oe /\ oe.dict = some x
def CXN (P : Program) (w : World) (base : Heap) : CXT := fun outer H s E e s' => ∃ (a t C : Addr) (d : Option Addr) (B : Heap) (H' : Hp),e = .ref a /\ E (.ref C) d H' /\ FlownN P w base outer H s a t C d B H' s'
theorem Inv.xe {X : Cx} {pins : List (Addr × Obj)} {σ : St} {H : Hp} {s : Shared} (y : Value -> Shared -> Prop) (I : Inv X pins σ H s) : Inv { X with xe := y } pins σ H s :=
 ⟨⟨I.ok.mod,I.ok.kind,I.ok.glob,I.ok.blt,I.ok.above,I.ok.inj,I.ok.has,I.ok.cab,I.ok.hd,I.ok.frames,I.ok.stk,I.ok.exf,I.ok.bs,I.ok.bsz,I.ok.noex,I.ok.exfs,I.ok.funs,I.ok.frf⟩,I.os,I.bare,I.base,I.loc,I.cell,I.free,I.freeC,I.pin,I.hok,I.len⟩
section
variable {P : Program} {w : World} {K : Frag} {mg : Str -> Option Value} {base : Heap} {N : List Str} {qual : Str} {scope : Scope} {f : Addr} {cd : Value} {A : Around} {outer : List Env} {s : Shared} {H : Hp} {E : XK}
theorem jqn : Passes (CXN P w base) (cxOf (CXN P w base) P w K mg base N qual scope f cd A outer s H E) E := by
 intro pins σ H1 s1 e s2 I hq
 obtain ⟨a,t,C,d,B,H2,rfl,hE,W⟩ := hq
 have I' : Inv (cxOf (CXE P w base) P w K mg base N qual scope f cd A outer s H fun c _ H' => E c d H') pins σ H1 s1 := I.xe _
 have z := nq8 (E := fun c _ H' => E c d H') pins σ H1 s1 (.ref a) s2 I' ⟨a,t,C,B,H2,rfl,hE,W.f⟩
 refine wpAny_mono (gqq (iq9 _ _) z) (fun _ s3 W' => ?_) fun _ _ z=>z.elim
 obtain ⟨⟨a',t',C',B',H',ea,hE',W'⟩,sd⟩ := W'
 cases ea
 refine ⟨a,t',C',d,B',H',rfl,hE',W',fun x hx=>?_⟩
 obtain ⟨oe,ho,hd⟩ := W.dc x hx
 obtain ⟨ob,hob,_⟩ := W'.fly.there
 exact ⟨ob,hob,(sd.get ho hob).trans hd⟩
def Raises1 (X : Cx) (E : XK) : Prop := ∀ (pins : List (Addr × Obj)) (σ : St) (H : Hp) (s : Shared) (a C d : Addr),Inv X pins σ H s -> H a = some (exSet a C d) -> X.s₀.heap.objs.size <= a -> E (.ref C) (some d) (forget H a) -> X.xe (.ref a) s
theorem jql : Raises1 (cxOf (CXN P w base) P w K mg base N qual scope f cd A outer s H E) E := by
 intro pins σ H1 s1 e C d I ha hsz hE
 have hf : (envOfC qual scope s.heap.objs.size f cd).frame = some s.heap.objs.size := rfl
 have stk : s1.heap.FunFrames base (envOfC qual scope s.heap.objs.size f cd :: outer) := I.stack
 have stf : ∀ b ∈ frs (envOfC qual scope s.heap.objs.size f cd :: outer),H1 b = none := I.stkFree
 have ib : Un (frs outer) [] H H1 s.heap s1.heap := I.base
 obtain ⟨⟨t,sl,he⟩,_,_⟩ := I.hok e _ ha
 have hsz' : s.heap.objs.size <= e := hsz
 have nde : ∀ b o,s.heap.get? b = some o -> b ≠ e := fun b o q=>Nat.ne_of_lt (Nat.lt_of_lt_of_le (Heap.lt_size q) hsz')
 have ne : ∀ b o,s.heap.get? b = some o -> b ∉ frs outer -> b ∉ e :: frs (envOfC qual scope s.heap.objs.size f cd :: outer) := fun b o q n z=>by
  rcases List.mem_cons.mp z with z | z
  ·exact nde b o q z
  ·rcases (fqQ hf).mp z with z | z
   ·exact absurd (Heap.lt_size q) (by rw [z]; exact Nat.lt_irrefl _)
   ·exact n z
 have eN : e ∉ frs (envOfC qual scope s.heap.objs.size f cd :: outer) := fun z=>by rw [stf e z] at ha; cases ha
 show wpAny (model P w) (A.deeper (envOfC qual scope s.heap.objs.size f cd)) (leaving (envOfC qual scope s.heap.objs.size f cd) (.ref e)) _ _ _
 have kB : Heap.StaysIn (hideAll s1.heap (e :: frs (envOfC qual scope s.heap.objs.size f cd :: outer))) s1.heap := fun b o q=>of_hideAll _ q
 refine wpAny_mono (gqq (iq9 _ _) (wpAny_leaving_firstW (E := fun _ _=>False) (Q := fun _ s3=>∃ h',s3 = { s1 with heap := h' } /\ Heap.LeftW (hideAll s1.heap (e :: frs (envOfC qual scope s.heap.objs.size f cd :: outer))) (envOfC qual scope s.heap.objs.size f cd :: outer) e (.ref C) (.ref t) s1.heap h')
  (base := hideAll s1.heap (e :: frs (envOfC qual scope s.heap.objs.size f cd :: outer))) (oe := ⟨.ref C,some d,.fields #[.ref t,.none,.none,.none,.bool false,.none],sl⟩) (a0 := .ref t) I.ok.frames
  (funFrames_hide stk fun env he b hb=>List.mem_cons_of_mem _ (List.mem_filterMap.mpr ⟨env,he,hb⟩)) hf he kB (hideAll_none _ (.head _)) rfl rfl rfl fun h' L=>⟨h',rfl,L⟩)) (fun _ s3 ⟨⟨h2,es3,L⟩,sd⟩=>?_) fun _ _ z=>z.elim
 subst es3
 obtain ⟨x1,⟨_,_,x2⟩,x3,x4⟩ := L
 have keepB : ∀ b o,s.heap.get? b = some o -> H b = none -> b ∉ frs outer -> (hideAll s1.heap (e :: frs (envOfC qual scope s.heap.objs.size f cd :: outer))).get? b = some o := fun b o q n nf =>
  hideAll_get _ (ib.keep b o q n nf (by simp)) (ne b o q nf)
 have thB : ∀ b o,s.heap.get? b = some o -> b ∉ frs outer -> ∃ o',(hideAll s1.heap (e :: frs (envOfC qual scope s.heap.objs.size f cd :: outer))).get? b = some o' := fun b o q nf=>by
  obtain ⟨o',z⟩ := ib.there b o q (by simp)
  exact ⟨o',hideAll_get _ z (ne b o q nf)⟩
 have slotF : ∀ b,b ∈ frs outer -> ∀ o,s1.heap.get? b = some o -> ∃ sl,h2.get? b = some { o with slots := sl } := fun b hb o q=>by
  obtain ⟨_,o2,q2,nd⟩ := stk.mem ((fqQ hf).mpr (.inr hb))
  rw [q] at q2
  cases q2
  exact x4 b o q nd
 have fly : Heap.FlyingW (hideAll s1.heap (e :: frs (envOfC qual scope s.heap.objs.size f cd :: outer))) outer e (.ref C) (.ref t) h2 := ⟨x1,hideAll_none _ (.head _),x2,x3⟩
 have nee : ∀ b u,H1 b = some u -> u ≠ exSet e C d -> b ≠ e := fun b u q n z=>by subst z; rw [ha] at q; exact n (Option.some.inj q).symm
 refine ⟨e,t,C,some d,_,forget H1 e,rfl,hE,⟨I.os,I.bare,fun b o q=>?_,fly,fun a u q=>?_,⟨fun b o q n nf _=>x1 b o (keepB b o q n nf),fun b o q n hb _=>?_,fun b o q n hx=>?_,fun b o q _=>?_,fun b xs q=>?_,fun b o u q=>?_,fun b ps q=>?_⟩,keepB,thB⟩,fun x hx=>?_⟩
 ·refine hideAll_get _ (I.bk b o q) fun z=>?_
  rcases List.mem_cons.mp z with z | z
  ·exact absurd (Nat.lt_of_lt_of_le (Heap.lt_size q) (Nat.le_trans I.ok.bsz hsz')) (by rw [z]; exact Nat.lt_irrefl _)
  ·rw [(stk.mem z).1] at q; cases q
 ·by_cases z : a = e
  ·subst z; rw [lqe] at q; cases q
  ·rw [bqV z] at q
   refine (I.hok a u q).stay (fun b v hb y=>hideAll_get _ y fun m=>?_) (fun b y=>?_) fun b xs y=>?_
   ·rcases List.mem_cons.mp m with m | m
    ·rcases hb with rfl | hb
     ·exact z m
     ·exact nee b _ hb (by intro y; cases y) m
    ·have := stf b m
     rcases hb with rfl | hb
     ·rw [q] at this; cases this
     ·rw [hb] at this; cases this
   ·rw [bqV (nee b _ y (by intro y; cases y))]; exact y
   ·rw [bqV (nee b _ y (by intro y; cases y))]; exact y
 ·obtain ⟨sl,z⟩ := ib.slot b o q n hb (by simp)
  obtain ⟨sl',z'⟩ := slotF b hb _ z
  exact ⟨sl',z'⟩
 ·rw [bqV (nde b o q)]
  exact ib.free b o q n hx
 ·by_cases hb : b ∈ frs outer
  ·obtain ⟨o',z⟩ := ib.there b o q (by simp)
   obtain ⟨sl',z'⟩ := slotF b hb _ z
   exact ⟨_,z'⟩
  ·obtain ⟨o',z⟩ := thB b o q hb
   exact ⟨o',x1 b o' z⟩
 ·have z := ib.tups b xs q
  rw [bqV (nee b _ z (by intro y; cases y))]; exact z
 ·have z := ib.frzs b o u q
  rw [bqV (nee b _ z (by intro y; cases y))]; exact z
 ·obtain ⟨m,z⟩ := ib.tbls b ps q
  exact ⟨m,by rw [bqV (nee b _ z (by intro y; cases y))]; exact z⟩
 ·cases hx
  obtain ⟨ob,hob,_⟩ := fly.there
  exact ⟨ob,hob,sd.get he hob⟩
end
structure Mk1 (K : Frag) (C f : Addr) : Prop where
 ex : excInI K C vErr vNew f = true
 fn : isFn K (.ref f) = true
 kp : keepIn K (.ref C) = true
def tRaise1 (E : XK) (C : Addr) (sp : Sp) (t : TA) : TS := fun _ σ H=>t σ H fun vs H1=>∀ a,H1 a = none -> sp (.ref a :: vs) (upd H1 a (exNew a C)) (fun v H2=>v = .non /\ ∃ d,H2 a = some (exSet a C d) /\ E (.ref C) (some d) (forget H2 a)) E0
theorem nqM {E : XK} {C : Addr} {sp : Sp} {t : TA} {D : Ends} {σ : St} {H : Hp} : (tRaise1 E C sp t D σ H) = (t σ H fun vs H1=>∀ a,H1 a = none -> sp (.ref a :: vs) (upd H1 a (exNew a C)) (fun v H2=>v = .non /\ ∃ d,H2 a = some (exSet a C d) /\ E (.ref C) (some d) (forget H2 a)) E0) := rfl
theorem jqX {X : Cx} {x : Str} {C f : Addr} {E : XK} {CX : CXT} {k : Nat} {fd : FuncData} {ps : List Str} {sp : Sp} {np cpos pos : Pos} {e : Expr} {t : TA}
  (hx : Raises1 X E) (hg : Gl X x) (hm : X.mg x = some (.ref C)) (M : Mk1 X.K C f) (F : FnOk X.prog X.w X.K X.mg X.base CX k f fd ps sp) (hr : Room (k + 1) X.A) (hb : Binds X.K fd ps []) (hps : ps.length = 2) (h0 : Passes CX X E0) (hcalm : X.calm = true) (ha : PA X [e] t)
  (hdb : (x == ("__debug__" : Str)) = false := by decide) (he : starEach [e] X.env = (false,eval e X.env) :: starEach [] X.env := by rfl) (hpl : (backTo cpos (starEach [] X.env)).any (·.1) = false := by rfl) :
  PS X (.Raise (some (.Call (.Name x np) [e] [] cpos)) none pos) (tRaise1 E C sp t) := by
 intro pins s σ H D I h
 obtain ⟨tl,N,nm,qn,bs,hd',sn,sub,ab,col,dd,k0,k1,k2,k3,k5,hC,⟨mN,hN,hni⟩,T⟩ := excObjI I.ok.mod.kin M.ex
 obtain ⟨oI,hoI,hcI⟩ : ∃ oI,X.base.get? f = some oI /\ oI.cls = .type "function" := by
  have z : typeIn X.K (.ref f) = some (.type "function") := beq_iff_eq.mp M.fn
  unfold typeIn at z
  obtain ⟨o,ho,hc⟩ := Option.map_eq_some_iff.mp z
  exact ⟨o,I.ok.mod.kin _ _ ho,hc⟩
 rw [arm_exec_Raise]
 have hbase := T.hasType PySem.F.excBase_ValueError.hasBase
 refine wpAny_bind (wpAny_standAt (jqM (C := C) (nm := nm) (q := qn) (N := N) (bs := bs) (bm := tl) (hdct := hd') (sn := sn) (sub := sub) (ab := ab) (col := col) (dd := dd) (k0 := k0) (k1 := k1) (k2 := k2) (k3 := k3) (k5 := k5) (newId := vNew) hbase (I.ok.hd hcalm) ?_))
 refine wpAny_bind (wpAny_mono (wpAny_Call_Name_kw (iqn I hg hm ?_ hdb)) (fun v s₃ h₃=>wpAny_bind (wpAny_standAt (wpAny_pure h₃))) fun _ _ x=>x)
 refine callWith_K (h₀ := X.base) I.ok.mod.kin M.kp (thn (ha cpos pins s σ H _ I h) fun us s1 ⟨vs,H1,I1,r,q⟩=>⟨I1.kIn,?_⟩) he hpl
 rw [List.nil_append]
 obtain ⟨hh,g,dw,tk,os⟩ := s1
 have hlu : us.length <= sizeLine := by
  have z := F.len _ _ _ _ (q (hh.objs.size + 1) (I1.hok.fresh (Nat.le_succ _)))
  rw [List.length_cons,hps] at z
  rw [<- r.length,sizeLine_eq]
  omega
 have kb : ∀ b o,X.base.get? b = some o -> hh.get? b = some o := fun b o e=>I1.bk b o e
 refine nq5 PySem.F.excBase_ValueError (T.keeps kb) (kb _ _ hC) (hN.keeps kb) hni (kb _ _ hoI) hcI ?_ hlu
 have I2 : Inv X pins σ (upd H1 (hh.objs.size + 1) (exNew (hh.objs.size + 1) C)) ⟨(hh.push (newTup us)).push (newExc C hh.objs.size),g,dw,tk,os⟩ := by
  refine I1.laid (t' := tk) (fun b u e=>Heap.get?_push_of_some _ (Heap.get?_push_of_some _ e)) (Nat.le_succ _) ?_
  have hg2 : ((hh.push (newTup us)).push (newExc C hh.objs.size)).get? (hh.objs.size + 1) = some (newExc C hh.objs.size) := by heap_get
  exact ⟨⟨_,_,hg2⟩,⟨_,hg2⟩,fun h1 h2 ⟨t,sl,z⟩ k=>⟨t,sl,k _ z⟩⟩
 have q2 := q (hh.objs.size + 1) (I1.hok.fresh (Nat.le_succ _))
 have r2 : Vals (V.ref (hh.objs.size + 1) :: vs) (Value.ref (hh.objs.size + 1) :: us) := .cons rfl r
 have hl : (Value.ref (hh.objs.size + 1) :: us).length = ps.length := by rw [<- r2.length]; exact F.len _ _ _ _ q2
 have hbb := hb ⟨(hh.push (newTup us)).push (newExc C hh.objs.size),g,dw,tk,os⟩ (Value.ref (hh.objs.size + 1) :: us) I2.kIn (by rw [List.append_nil]; exact hl)
 rw [List.append_nil] at hbb
 refine wpAny_call (codeAny_mono (F.run _ X.stack _ _ ⟨Value.ref (hh.objs.size + 1) :: us,[]⟩ (Value.ref (hh.objs.size + 1) :: us) _ _ E0 (hr.make C us []) (I2.env0.make C us []) hbb r2 q2) fun r s' hq' => ?_)
 cases r with
 | error ev=>exact h0 pins σ _ _ ev s' I2 hq'
 | ok fl =>
  cases fl with
  | ret u =>
   obtain ⟨v,H',I3,rv,ev,d,hd,hE⟩ := I2.after hq'
   subst ev
   obtain ⟨⟨t,sl,hx3⟩,_,_⟩ := I3.hok _ _ hd
   exact ⟨rv,_,t,some d,sl,rfl,I3.bk _ _ hC,hx3,hx pins σ H' s' _ C d I3 hd (Nat.le_trans I1.sz (Nat.le_succ _)) hE⟩
  | next=>exact False.elim hq'
  | brk=>exact False.elim hq'
  | cont=>exact False.elim hq'
theorem Fun.okn {P : Program} {w : World} {K : Frag} {mg : Str -> Option Value} {base : Heap} {x qual : Str} {st : Stmt} {f : Addr} {fd : FuncData} {N ps : List Str} {k : Nat} {sp : Sp} (F : Fun K x qual st f fd) (S : FnScope N ps (defScope st)) (len : ∀ vs H Q E,sp vs H Q E -> vs.length = ps.length)
  (hbody : ∀ (cdv : Value) (A : Around) (outer : List Env) (s : Shared) (H : Hp) (vs : List V) (Q : VK) (E : XK),Room k (A.deeper (envOfC qual (defScope st) s.heap.objs.size f cdv)) -> sp vs H Q E ->
   ∃ t,PSs (cxOf (CXN P w base) P w K mg base N qual (defScope st) f cdv A outer s H E) (defBody st) t /\ t { nx := fun _ H' => Q .non H',rt := Q } (start N vs) H) : FnOk P w K mg base (CXN P w base) (k + 1) f fd ps sp := by
 obtain ⟨oc,od,kV,doc,pm,an,cdv,ct,osl,rfl,lk,hcd⟩ := F.ex
 exact sqf lk hcd S len fun A outer s H vs Q E hr hsp=>hbody cdv A outer s H vs Q E hr hsp
def TryB (X : Cx) (body : List Stmt) (t : XK -> TS) : Prop := ∀ (pins : List (Addr × Obj)) (s : Shared) (σ : St) (H : Hp) (D : Ends) (Eh : XK),Inv X pins σ H s -> t Eh D σ H ->
 wpAny (model X.prog X.w) X.A (execs body X.env) (SP X pins D) (fun e s' => ∃ H1 s1,Inv X pins σ H1 s1 /\ CXN X.prog X.w X.base X.stack H1 s1 Eh e s') s
def tTryCall (sp : Sp) (t : TA) : XK -> TS := fun Eh D σ H=>t σ H fun vs H1=>sp vs H1 (fun _ H2=>D.nx σ H2) Eh
theorem Inv.sharp {X : Cx} {pins : List (Addr × Obj)} {σ : St} {H : Hp} {s : Shared} {a : Addr} {φ ψ : Heap -> Prop} (I : Inv X pins σ (upd H a (.ext φ)) s) (h : ψ s.heap) (st : ∀ h1 h2 : Heap,ψ h1 -> (∀ o,h1.get? a = some o -> h2.get? a = some o) -> ψ h2) : Inv X pins σ (upd H a (.ext ψ)) s := by
 have e : upd H a (.ext φ) a = some (.ext φ) := aqj
 obtain ⟨_,ex,_⟩ := I.hok a _ e
 have := I.write (x := a) (e := a) (o := .ext ψ) (t' := s.toks) (h' := s.heap) (by rw [e]; exact True.intro) (.inl rfl) (fun b u _ q=>q) ex ⟨h,ex,st⟩
 rwa [qqx] at this
def tTryN (K : Frag) (t : XK -> TS) (W : Addr) (i : Nat) (tb : TS) : TS := fun D σ H=>t (fun cls d H2 =>
 ∃ C,cls = .ref C /\ subIn K (.ref C) (.ref W) = some true /\ ∀ a,H2 a = none -> tb { nx := fun σ' H' => D.nx (σ'.set i none) H',rt := D.rt } (σ.set i (some (.ref a))) (upd H2 a (exC a C d))) { nx := D.nx,rt := D.rt } σ H
theorem qqU {K : Frag} {t : XK -> TS} {W : Addr} {i : Nat} {tb : TS} {D : Ends} {σ : St} {H : Hp} : tTryN K t W i tb D σ H ↔ t (fun cls d H2 =>
 ∃ C,cls = .ref C /\ subIn K (.ref C) (.ref W) = some true /\ ∀ a,H2 a = none -> tb { nx := fun σ' H' => D.nx (σ'.set i none) H',rt := D.rt } (σ.set i (some (.ref a))) (upd H2 a (exC a C d))) { nx := D.nx,rt := D.rt } σ H := Iff.rfl
theorem mqZ {sp : Sp} {t : TA} {Eh : XK} {D : Ends} {σ : St} {H : Hp} : (tTryCall sp t Eh D σ H) = (t σ H fun vs H1=>sp vs H1 (fun _ H2=>D.nx σ H2) Eh) := rfl
def rIsX (K : Frag) : List V -> Hp -> VK -> Prop := fun vs H Q=>∃ a c C d b,vs = [.ref a,c] /\ H a = some (exC a C d) /\ ExLook K C /\ KitAns K H C c b /\ Q (.bl b) H
theorem sqh {K : Frag} {a : Addr} {c : V} {H : Hp} {Q : VK} : rIsX K [.ref a,c] H Q ↔ ∃ C d b,H a = some (exC a C d) /\ ExLook K C /\ KitAns K H C c b /\ Q (.bl b) H :=
 ⟨fun ⟨_,_,C,d,b,e,h⟩=>by cases e; exact ⟨C,d,b,h⟩,fun ⟨C,d,b,h⟩=>⟨a,c,C,d,b,rfl,h⟩⟩
end L2
namespace L2
open PySem PySem.Spec PySem.W PySem.Calls PyProof.Rows PySem.Builtin PySem.Builtin.ObjectAttr
section
variable {prog : Program} {w : World} {A : Around} {E : Value -> Shared -> Prop} {hh : Heap} {g : Array GenState} {dr : Drawn} {t : Nat} {os : OsState} {K : Frag} {a C : Addr} {o : Obj} {od : Option Obj} {name : Str} {v : Value}
end
structure ExFld (K : Frag) (C : Addr) (f : Str) : Prop where
 look : ExLook K C
 na : findIn K (.ref C) f = some none
 hd : hasDictIn K C = true
def tFldE (K : Frag) (te : TE) (f : Str) : TE := fun σ H Q=>te σ H fun x H1=>∃ a C d fs v,x = .ref a /\ H1 a = some (exC a C (some d)) /\ H1 d = some (.xd fs) /\ ExFld K C f /\ fs.lookup f = some v /\ Q v H1
theorem qq1 {K : Frag} {te : TE} {f : Str} {σ : St} {H : Hp} {Q : VK} : (tFldE K te f σ H Q) = (te σ H fun x H1=>∃ a C d fs v,x = .ref a /\ H1 a = some (exC a C (some d)) /\ H1 d = some (.xd fs) /\ ExFld K C f /\ fs.lookup f = some v /\ Q v H1) := rfl
end L2
namespace L2
open PySem PySem.Spec PySem.W PySem.Calls PyProof.Rows
section
variable {P : Program} {w : World} {K : Frag} {mg : Str -> Option Value} {base : Heap} {j k : Nat} {A : Around} {outer : List Env} {s : Shared} {H : Hp} {E : XK}
structure RoomU (k : Nat) (A : Around) : Prop where
 dp : A.depth + 3 * k + 5 < recursionLimit
 un : A.units + 16 * k + 200 < cLine
structure FnU (P : Program) (w : World) (K : Frag) (mg : Str -> Option Value) (base : Heap) (k : Nat) (f : Addr) (fd : FuncData) (ps : List Str) (sp : Sp) : Prop where
 len : ∀ vs H Q E,sp vs H Q E -> vs.length = ps.length
 go : ∀ (A : Around) (outer : List Env) (s : Shared) (H : Hp) (args : Args) (us : List Value) (vs : List V) (Q : VK) (E : XK),RoomU k A -> Env0 P w K mg base A outer s H -> BindsTo s fd args (ps.zip us) -> Vals vs us -> sp vs H Q E ->
  codeAny (model P w) A (.call (.ref f) args) (CR CX0 outer P w H s Q E) s
end
section
variable {X : Cx}
def tTryIf (tc : TT) (ta tb : XK -> TS) : XK -> TS := fun Eh D σ H=>tc σ H fun b H1=>if b = true then ta Eh D σ H1 else tb Eh D σ H1
theorem pqV {tc : TT} {ta tb : XK -> TS} {Eh : XK} {D : Ends} {σ : St} {H : Hp} : (tTryIf tc ta tb Eh D σ H) = (tc σ H fun b H1=>if b = true then ta Eh D σ H1 else tb Eh D σ H1) := rfl
def TryE (X : Cx) (e : Expr) (t : XK -> TE) : Prop := ∀ (pins : List (Addr × Obj)) (s : Shared) (σ : St) (H : Hp) (Q : VK) (Eh : XK),Inv X pins σ H s -> t Eh σ H Q ->
 wpAny (model X.prog X.w) X.A (eval e X.env) (EP X pins σ Q) (fun e s' => ∃ H1 s1,Inv X pins σ H1 s1 /\ CXN X.prog X.w X.base X.stack H1 s1 Eh e s') s
def tTryE (sp : Sp) (t : TA) : XK -> TE := fun Eh σ H Q=>t σ H fun vs H1=>sp vs H1 Q Eh
theorem nqt {k : Nat} {f : Addr} {fd : FuncData} {ps : List Str} {sp : Sp} {fx : Str} {p cpos : Pos} {e : Expr} {es : List Expr} {t : TA}
  (F : FnOk X.prog X.w X.K X.mg X.base (CXN X.prog X.w X.base) k f fd ps sp) (hr : Room k X.A) (hg : Gl X fx) (hm : X.mg fx = some (.ref f)) (hk : keepIn X.K (.ref f) = true) (hb : Binds X.K fd ps []) (ha : PA X (e :: es) t)
  (hx0 : ∀ e s,X.xe e s -> False)
  (hdb : (fx == ("__debug__" : Str)) = false := by decide)
  (he : starEach (e :: es) X.env = (false,eval e X.env) :: starEach es X.env := by rfl) (hpl : (backTo cpos (starEach es X.env)).any (·.1) = false := by rfl) :
  TryE X (.Call (.Name fx p) (e :: es) [] cpos) (tTryE sp t) := by
 intro pins s σ H Q Eh I h
 refine wpAny_Call_Name_kw (iqn I hg hm ?_ hdb)
 refine callWith_K (h₀ := X.base) I.ok.mod.kin hk (wpAny_mono (ha cpos pins s σ H _ I h) (fun us s1 ⟨vs,H1,I1,r,q⟩=>⟨I1.kIn,?_⟩) fun e s1 z=>(hx0 e s1 z).elim) he hpl
 have hlen : (us ++ []).length = ps.length := by rw [List.append_nil,<- r.length]; exact F.len _ _ _ _ q
 have hbb := hb s1 us I1.kIn hlen
 rw [List.append_nil] at hbb
 refine wpAny_call (codeAny_mono (F.run X.A X.stack s1 H1 ⟨us,[]⟩ us vs _ _ hr I1.env0 hbb r q) fun r s2 hq=>?_)
 cases r with
 | ok fl =>
  cases fl with
  | ret u=>exact I1.after hq
  | next=>exact False.elim hq
  | brk=>exact False.elim hq
  | cont=>exact False.elim hq
 | error ev=>exact ⟨H1,s1,I1,hq⟩
def tTryP (ta : TE) (te : XK -> TE) : XK -> TE := fun Eh σ H Q=>ta σ H fun x H1=>te Eh σ H1 fun y H2=>∀ p H',H2 p = none -> Same H2 H' -> H' p = some (.tup [x,y]) -> Q (.ref p) H'
def tTryS (i : Nat) (te : XK -> TE) : XK -> TS := fun Eh D σ H=>te Eh σ H fun v H1=>D.nx (σ.set i (some v)) H1
theorem qqS {sp : Sp} {t : TA} {Eh : XK} {σ : St} {H : Hp} {Q : VK} : (tTryE sp t Eh σ H Q) = (t σ H fun vs H1=>sp vs H1 Q Eh) := rfl
theorem rqv {ta : TE} {te : XK -> TE} {Eh : XK} {σ : St} {H : Hp} {Q : VK} : (tTryP ta te Eh σ H Q) = (ta σ H fun x H1=>te Eh σ H1 fun y H2=>∀ p H',H2 p = none -> Same H2 H' -> H' p = some (.tup [x,y]) -> Q (.ref p) H') := rfl
theorem rqJ {i : Nat} {te : XK -> TE} {Eh : XK} {D : Ends} {σ : St} {H : Hp} : (tTryS i te Eh D σ H) = (te Eh σ H fun v H1=>D.nx (σ.set i (some v)) H1) := rfl
end
end L2
namespace L2
open PySem
end L2
namespace Wm
open PySem L2
abbrev Rs (α : Type) := Except Nat (α × Nat)
def mp {α β : Type} (f : α -> β) : Rs α -> Rs β
 | .ok (a,n)=>.ok (f a,n)
 | .error n=>.error n
def pre {α : Type} (c : α) (k : Nat) : Rs (List α) -> Rs (List α)
 | .ok (l,n)=>.ok (c :: l,k + n)
 | .error n=>.error (k + n)
section
variable {α β γ : Type}
end
section
variable {t : List Nat} {h : Option (List Nat)} {d : Option Int} {w : Bool × List (List Nat) × Bool} {q : Option (List (List Nat × Option (List Nat)))} {m : Option (List Nat)} {n n1 n2 n3 n4 n5 : Nat}
end
section
variable {r : List Nat} {n : Nat}
end
section
variable {r : List Nat} {n : Nat}
end
end Wm
namespace L2
open PySem PySem.Spec PyProof.Rows
section
variable {X : Cx}
def rStart1 : V -> List V -> Hp -> VK -> Prop := fun x vs H Q=>∃ z y : List Nat,x = .str ⟨z.toArray⟩ /\ vs = [.str ⟨y.toArray⟩] /\ Q (.bl (decide (z.take y.length = y))) H
def rEnd1 : V -> List V -> Hp -> VK -> Prop := fun x vs H Q=>∃ z y : List Nat,x = .str ⟨z.toArray⟩ /\ vs = [.str ⟨y.toArray⟩] /\ Q (.bl (decide (z.drop (z.length - y.length) = y))) H
theorem qqh (z y : List Nat) (i : Nat) : Builtin.Str.subAt ⟨z.toArray⟩ ⟨y.toArray⟩ i = decide ((z.drop i).take y.length = y) := by
 unfold Builtin.Str.subAt
 have hl : (⟨y.toArray⟩ : Str).length = y.length := rfl
 rw [hl,Bool.eq_iff_iff,beq_iff_eq,decide_eq_true_eq]
 show (z.toArray.extract i (i + y.length) = y.toArray) ↔ _
 rw [<- Array.toList_inj]
 simp
theorem oqY (z y : List Nat) : (decide (0 + (⟨y.toArray⟩ : Str).length <= (⟨z.toArray⟩ : Str).length) && Builtin.Str.subAt ⟨z.toArray⟩ ⟨y.toArray⟩ 0) = decide (z.take y.length = y) := by
 rw [qqh,List.drop_zero]
 show (decide (0 + y.length <= z.length) && _) = _
 by_cases h : z.take y.length = y
 ·have := congrArg List.length h
  rw [List.length_take] at this
  rw [decide_eq_true h,decide_eq_true (show 0 + y.length <= z.length by omega)]
  rfl
 ·rw [decide_eq_false h,Bool.and_false]
theorem rqV (z y : List Nat) : (decide (0 + (⟨y.toArray⟩ : Str).length <= (⟨z.toArray⟩ : Str).length) && Builtin.Str.subAt ⟨z.toArray⟩ ⟨y.toArray⟩ ((⟨z.toArray⟩ : Str).length - (⟨y.toArray⟩ : Str).length)) = decide (z.drop (z.length - y.length) = y) := by
 rw [qqh]
 show (decide (0 + y.length <= z.length) && decide ((z.drop (z.length - y.length)).take y.length = y)) = _
 have e : (z.drop (z.length - y.length)).length <= y.length -> (z.drop (z.length - y.length)).take y.length = z.drop (z.length - y.length) := fun h=>List.take_of_length_le h
 rw [e (by rw [List.length_drop]; omega)]
 by_cases h : z.drop (z.length - y.length) = y
 ·have := congrArg List.length h
  rw [List.length_drop] at this
  rw [decide_eq_true h,decide_eq_true (show 0 + y.length <= z.length by omega)]
  rfl
 ·rw [decide_eq_false h,Bool.and_false]
theorem kqf : MtR X "str.startswith" rStart1 := by
 intro pins s σ H x vs v us Q I rx rv h
 obtain ⟨z,y,rfl,rfl,q⟩ := h
 obtain ⟨t,rfl⟩ := rx
 obtain ⟨u,rfl,t',rfl⟩ := vals1 rv
 refine call_meets F.slot_str_startswith (typeIs_str _ _ _) F.entry_str_startswith (F.args_str_startswith_2 _ _) (gives_str_startswith _ _ t t').meets ?_
 refine ⟨.bl _,H,I,rfl,?_⟩
 rw [<- oqY] at q
 exact q
theorem nqr : MtR X "str.endswith" rEnd1 := by
 intro pins s σ H x vs v us Q I rx rv h
 obtain ⟨z,y,rfl,rfl,q⟩ := h
 obtain ⟨t,rfl⟩ := rx
 obtain ⟨u,rfl,t',rfl⟩ := vals1 rv
 refine call_meets F.slot_str_endswith (typeIs_str _ _ _) F.entry_str_endswith (F.args_str_endswith_2 _ _) (gives_str_endswith _ _ t t').meets ?_
 refine ⟨.bl _,H,I,rfl,?_⟩
 rw [<- rqV] at q
 exact q
theorem sql {i j : Nat} {ta : TA} {D : Ends} {σ : St} {H : Hp} : (tPar i j ta D σ H) = (ta σ H fun vs H1=>∃ v w,vs = [v,w] /\ D.nx ((σ.set i (some v)).set j (some w)) H1) := rfl
theorem lqO {z y : List Nat} {H : Hp} {Q : VK} : rStart1 (.str ⟨z.toArray⟩) [.str ⟨y.toArray⟩] H Q ↔ Q (.bl (decide (z.take y.length = y))) H :=
 ⟨fun ⟨z',y',e1,e2,h⟩=>by
  injection e1 with e1; injection e1 with e1
  injection e2 with e2; injection e2 with e2; injection e2 with e2
  have h1 : z = z' := by simpa using congrArg Array.toList e1
  have h2 : y = y' := by simpa using congrArg Array.toList e2
  subst h1 h2; exact h,fun h=>⟨z,y,rfl,rfl,h⟩⟩
theorem lqV {z y : List Nat} {H : Hp} {Q : VK} : rEnd1 (.str ⟨z.toArray⟩) [.str ⟨y.toArray⟩] H Q ↔ Q (.bl (decide (z.drop (z.length - y.length) = y))) H :=
 ⟨fun ⟨z',y',e1,e2,h⟩=>by
  injection e1 with e1; injection e1 with e1
  injection e2 with e2; injection e2 with e2; injection e2 with e2
  have h1 : z = z' := by simpa using congrArg Array.toList e1
  have h2 : y = y' := by simpa using congrArg Array.toList e2
  subst h1 h2; exact h,fun h=>⟨z,y,rfl,rfl,h⟩⟩
end
end L2
namespace L2
open PySem
section
variable {p : Addr} {fv : St} {tt : TT} {te : TE} {Q : VK} {H1 : Hp} {K : PySem.W.Frag}
theorem nqd {a : Addr} {xs : List V} (f : V -> Bool) (g : V -> V) (hxs : SqL K H1 a xs) (hlen : xs.length <= sizeLine) (hp : H1 p = none)
  (ht : ∀ (i : Nat) (x : V),xs[i]? = some x -> ∀ (H' : Hp) (R : Bool -> Hp -> Prop),Same H1 H' -> (∀ H'',Same H' H'' -> R (f x) H'') -> tt (some x :: fv) H' R)
  (he : ∀ (i : Nat) (x : V),xs[i]? = some x -> f x = true -> ∀ (H' : Hp) (T : VK),Same H1 H' -> (∀ H'',Same H' H'' -> T (g x) H'') -> te (some x :: fv) H' T)
  (hQ : ∀ H',Same H1 H' -> H' p = some (.lst ((xs.filter f).map g)) -> Q (.ref p) H') : CompI (Itl K a) p fv tt te Q H1 := by
 refine ⟨fun i m ys H2=>m = xs.length - i /\ i <= xs.length /\ ys = ((xs.take i).filter f).map g /\ H2 p = some (.lst ys) /\ Same H1 H2,⟨xs.length,by simp,Nat.zero_le _,by simp,aqj,fun b o e=>by rw [aqo (aqm e hp)]; exact e⟩,?_⟩
 rintro i m ys H2 ⟨rfl,hi,rfl,hp2,sm⟩
 refine ⟨hp2,?_⟩
 have q := sm.seq hxs
 by_cases hlt : i < xs.length
 ·refine .inr ⟨⟨xs,xs[i],q,by simp [hlt]⟩,?_,fun x H3 y=>?_⟩
  ·rw [List.length_map]
   have := List.length_filter_le f (xs.take i)
   rw [List.length_take] at this
   omega
  ·obtain ⟨rfl,y⟩ := y
   have hc := y xs q
   refine ht i x hc _ _ sm fun H4 s4=>?_
   by_cases hf : f x = true
   ·rw [if_pos hf]
    refine he i x hc hf _ _ (sm.trans s4) fun H5 s5=>⟨(s4.trans s5) _ _ hp2,xs.length - (i + 1),by omega,rfl,hlt,?_,aqj,fun b o e=>?_⟩
    ·rw [List.take_add_one,hc]; simp [hf]
    ·rw [aqo (aqm e hp)]; exact (s4.trans s5) _ _ (sm _ _ e)
   ·rw [if_neg hf]
    refine ⟨xs.length - (i + 1),by omega,rfl,hlt,?_,s4 _ _ hp2,sm.trans s4⟩
    rw [List.take_add_one,hc]; simp [hf]
 ·have e : i = xs.length := by omega
  subst e
  refine .inl ⟨⟨xs,q,Nat.le_refl _⟩,hQ H2 sm ?_⟩
  rw [hp2,List.take_length]
end
end L2
namespace Wm
open PySem L2
inductive Pc
 | step (s : List Nat)
 | part (h n t : List Nat)
 | num (n : List Nat)
 | word (n : List Nat)
 | gap (n : List Nat)
 | rest (n : List Nat)
abbrev tV (l : List Nat) : V := .str ⟨l.toArray⟩
def Pc.kw : Pc -> Str
 | .step _=>Str.ofString "step"
 | .part .. => Str.ofString "part"
 | .num _=>Str.ofString "number"
 | .word _=>Str.ofString "word"
 | .gap _=>Str.ofString "gap"
 | .rest _=>Str.ofString "rest"
def Pc.tl : Pc -> List V
 | .step s=>[tV s]
 | .part h n t=>[tV h,tV n,tV t]
 | .num n=>[tV n]
 | .word n=>[tV n]
 | .gap n=>[tV n]
 | .rest n=>[tV n]
def Pc.vals (c : Pc) : List V := .str c.kw :: c.tl
def Pc.name : Pc -> List Nat
 | .step _=>[]
 | .part _ n _=>n
 | .num n=>n
 | .word n=>n
 | .gap n=>n
 | .rest n=>n
def Pc.head : Pc -> List Nat | .part h _ _=>h | _=>[]
def Pc.tail : Pc -> List Nat | .part _ _ t=>t | _=>[]
def Pc.isStep : Pc -> Bool | .step _=>true | _=>false
def Pc.isPart : Pc -> Bool | .part .. => true | _=>false
def Pc.isNum : Pc -> Bool | .num _=>true | _=>false
def Pc.isWord : Pc -> Bool | .word _=>true | _=>false
def Pc.isRest : Pc -> Bool | .rest _=>true | _=>false
theorem Pc.at0 (c : Pc) : atI c.vals 0 = some (.str c.kw) := aqi (j := 0) rfl
theorem gqO (c : Pc) : decide (c.kw = Str.ofString "step") = c.isStep := by cases c <;> first | exact decide_eq_true rfl | exact decide_eq_false (show ¬ (Str.ofString _ = Str.ofString _) by decide +kernel)
theorem bqr (c : Pc) : decide (c.kw = Str.ofString "part") = c.isPart := by cases c <;> first | exact decide_eq_true rfl | exact decide_eq_false (show ¬ (Str.ofString _ = Str.ofString _) by decide +kernel)
theorem dqy (c : Pc) : decide (c.kw = Str.ofString "number") = c.isNum := by cases c <;> first | exact decide_eq_true rfl | exact decide_eq_false (show ¬ (Str.ofString _ = Str.ofString _) by decide +kernel)
theorem fqE (c : Pc) : decide (c.kw = Str.ofString "word") = c.isWord := by cases c <;> first | exact decide_eq_true rfl | exact decide_eq_false (show ¬ (Str.ofString _ = Str.ofString _) by decide +kernel)
theorem dqQ (c : Pc) : decide (c.kw = Str.ofString "rest") = c.isRest := by cases c <;> first | exact decide_eq_true rfl | exact decide_eq_false (show ¬ (Str.ofString _ = Str.ofString _) by decide +kernel)
def isFig (c : Nat) : Bool := decide (48 <= c /\ c <= 57)
def isSma (c : Nat) : Bool := decide (97 <= c /\ c <= 122)
def numB (l : List Nat) : Bool := decide (1 <= l.length) && decide (l.length <= 60) && l.all isFig && (decide (l = [48]) || !decide (l.head? = some 48))
def wordB (l : List Nat) : Bool := decide (1 <= l.length) && decide (l.length <= 60) && l.all isSma
def partB (h t s : List Nat) : Bool := decide (s.take h.length = h) && (decide (s.drop (s.length - t.length) = t) && decide (h.length + t.length < s.length))
def fitsM (c : Pc) (s : List Nat) : Bool := !isDot s && match c with
 | .step w=>decide (s = w)
 | .part h _ t=>partB h t s
 | .num _=>numB s
 | .word _=>wordB s
 | .gap _=>true
 | .rest _=>true
inductive Vl
 | txt (l : List Nat)
 | int (i : Int)
 | lst (ls : List (List Nat))
def intOf (l : List Nat) : Int := (PySem.intText? ⟨l.toArray⟩).getD 0
def amid (h t s : List Nat) : List Nat := (s.drop h.length).take (s.length - t.length - h.length)
def bvM (c : Pc) (ss : List (List Nat)) : Vl := match c with
 | .rest _=>.lst ss
 | .num _=>.int (intOf (ss.headD []))
 | _=>.txt (amid c.head c.tail (ss.headD []))
def VlV (H : Hp) : Vl -> V -> Prop
 | .txt l,v=>v = tV l
 | .int i,v=>v = .int i
 | .lst ls,v=>∃ p,v = .ref p /\ H p = some (.lst (ls.map tV))
theorem VlV.mono {H H' : Hp} (s : Same H H') : ∀ {x : Vl} {v : V},VlV H x v -> VlV H' x v
 | .txt _,_,h=>h
 | .int _,_,h=>h
 | .lst _,_,⟨p,e,h⟩=>⟨p,e,s _ _ h⟩
theorem qqB {l : List Nat} (h : l.all isFig = true) (h0 : 1 <= l.length) (h1 : l.length <= 60) : PySem.intText? ⟨l.toArray⟩ = some (intOf l) := by
 have e := intText_digits (x := ⟨l.toArray⟩) (fun c hc=>by
  have := List.all_eq_true.mp h c (by simpa using hc)
  simpa [isFig] using this) (by intro z; simp at z; rw [z] at h0; simp at h0) (by show l.length <= 4300; omega)
 unfold intOf
 rw [e]
 rfl
inductive PcAll (K : PySem.W.Frag) (H : Hp) : List Pc -> List V -> Prop
 | nil : PcAll K H [] []
 | cons {c : Pc} {p : Addr} {cs : List Pc} {xs : List V} : SqT K H p c.vals -> PcAll K H cs xs -> PcAll K H (c :: cs) (.ref p :: xs)
theorem PcAll.mono {K : PySem.W.Frag} {H H' : Hp} (s : Same H H') : ∀ {cs : List Pc} {xs : List V},PcAll K H cs xs -> PcAll K H' cs xs
 | _,_,.nil=>.nil
 | _,_,.cons h r=>.cons (s.tup h) (PcAll.mono s r)
theorem PcAll.length {K : PySem.W.Frag} {H : Hp} : ∀ {cs : List Pc} {xs : List V},PcAll K H cs xs -> xs.length = cs.length
 | _,_,.nil=>rfl
 | _,_,.cons _ r=>by simp [PcAll.length r]
theorem PcAll.get {K : PySem.W.Frag} {H : Hp} : ∀ {cs : List Pc} {xs : List V},PcAll K H cs xs -> ∀ {i : Nat} {v : V},xs[i]? = some v -> ∃ c p,cs[i]? = some c /\ v = .ref p /\ SqT K H p c.vals
 | _,_,.nil,i,v,e=>by simp at e
 | _,_,.cons h r,0,v,e=>by cases e; exact ⟨_,_,rfl,rfl,h⟩
 | _,_,.cons h r,i + 1,v,e=>by simp only [List.getElem?_cons_succ] at e ⊢; exact r.get e
theorem PcAll.append {K : PySem.W.Frag} {H : Hp} {ds : List Pc} {ys : List V} (h2 : PcAll K H ds ys) : ∀ {cs : List Pc} {xs : List V},PcAll K H cs xs -> PcAll K H (cs ++ ds) (xs ++ ys)
 | _,_,.nil=>h2
 | _,_,.cons h r=>.cons h (PcAll.append h2 r)
def hasRest (cs : List Pc) : Bool := match cs.getLast? with
 | some c=>c.isRest
 | none=>false
def smaL : List Nat := (Str.ofString "abcdefghijklmnopqrstuvwxyz").cps.toList
theorem oqg : ∀ c,c < 128 -> (c ∈ smaL ↔ isSma c = true) := by decide +kernel
theorem lq5 : ∀ c ∈ smaL,c < 128 := by decide +kernel
theorem nqs (l : List Nat) : l.all isSma = l.all fun c=>decide (c ∈ smaL) := by
 congr 1
 funext c
 by_cases h : c < 128
 ·rw [Bool.eq_iff_iff,decide_eq_true_eq]; exact (oqg c h).symm
 ·have h1 : ¬ c ∈ smaL := fun z=>h (lq5 c z)
  rw [decide_eq_false h1]
  unfold isSma
  exact decide_eq_false (by omega)
theorem nqh (l : List Nat) : (l.all fun c=>decide (c ∈ fgS)) = l.all isFig := by
 congr 1
 funext c
 unfold isFig
 exact decide_eq_decide.mpr sqm
theorem PcAll.last {K : PySem.W.Frag} {H : Hp} {cs : List Pc} {xs : List V} {c : Pc} (h : PcAll K H cs xs) (hc : cs.getLast? = some c) : ∃ v,atI xs (-1) = some v /\ ∃ p,v = .ref p /\ SqT K H p c.vals := by
 have hl := h.length
 have hn : cs ≠ [] := by rintro rfl; cases hc
 have hp := List.length_pos_iff.mpr hn
 obtain ⟨v,hx⟩ : ∃ v,xs[cs.length - 1]? = some v := ⟨_,List.getElem?_eq_getElem (by omega)⟩
 obtain ⟨d,p,e1,e2,e3⟩ := h.get hx
 rw [List.getLast?_eq_getElem?] at hc
 rw [hc] at e1
 cases e1
 refine ⟨v,?_,p,e2,e3⟩
 have hg : xs.getLast? = some v := by rw [List.getLast?_eq_getElem?,hl]; exact hx
 have := jqw (l := xs) (fun v=>v) hg
 simpa using this
def spreadM (cs : List Pc) (n : Nat) : Option (List Pc) := if hasRest cs = true /\ cs.length <= n then some (cs ++ (List.replicate (n - cs.length) (cs.drop (cs.length - 1))).flatten) else if n = cs.length then some cs else none
theorem mqo (s : List Nat) : amid [] [] s = s := by unfold amid; simp
def fitsP (cs : List Pc) (cl r : Bool) (ss : List (List Nat)) (e : Bool) : Bool := match spreadM cs ss.length with
 | none=>false
 | some ds=>r && decide (e = cl) && (List.zipWith fitsM ds ss).all id
def boundM : List Pc -> List (List Nat) -> List (List Nat × Vl)
 | [],_=>[]
 | c :: cs,ss=>(if c.isStep then [] else [(c.name,bvM c ss)]) ++ boundM cs (ss.drop 1)
inductive BndV (H : Hp) (l : Addr) : List (List Nat × Vl) -> List V -> Prop
 | nil : BndV H l [] []
 | cons {n : List Nat} {x : Vl} {p : Addr} {v : V} {bs : List (List Nat × Vl)} {ys : List V} : H p = some (.tup [tV n,v]) -> VlV H x v -> (∀ q,v = .ref q -> q ≠ l) -> BndV H l bs ys -> BndV H l ((n,x) :: bs) (.ref p :: ys)
theorem BndV.mono {H H' : Hp} {l : Addr} (s : Same H H') : ∀ {bs : List (List Nat × Vl)} {ys : List V},BndV H l bs ys -> BndV H' l bs ys
 | _,_,.nil=>.nil
 | _,_,.cons h v n r=>.cons (s _ _ h) (v.mono s) n (BndV.mono s r)
theorem VlV.upd {H : Hp} {l : Addr} {o : HO} : ∀ {x : Vl} {v : V},VlV H x v -> (∀ q,v = .ref q -> q ≠ l) -> VlV (L2.upd H l o) x v
 | .txt _,_,h,_=>h
 | .int _,_,h,_=>h
 | .lst _,_,⟨p,e,h⟩,hn=>⟨p,e,by rw [aqo (hn p e)]; exact h⟩
theorem BndV.upd {H : Hp} {l : Addr} {o : HO} {xs : List V} (hl : H l = some (.lst xs)) : ∀ {bs : List (List Nat × Vl)} {ys : List V},BndV H l bs ys -> BndV (L2.upd H l o) l bs ys
 | _,_,.nil=>.nil
 | _,_,.cons h v n r=>.cons (by rw [aqo (sqg h hl (by intro z; cases z))]; exact h) (v.upd n) n (BndV.upd hl r)
theorem BndV.snoc {H : Hp} {l : Addr} {n : List Nat} {x : Vl} {p : Addr} {v : V} (h : H p = some (.tup [tV n,v])) (hv : VlV H x v) (hn : ∀ q,v = .ref q -> q ≠ l) : ∀ {bs : List (List Nat × Vl)} {ys : List V},BndV H l bs ys -> BndV H l (bs ++ [(n,x)]) (ys ++ [.ref p])
 | _,_,.nil=>.cons h hv hn .nil
 | _,_,.cons a b c r=>.cons a b c (BndV.snoc h hv hn r)
theorem BndV.length {H : Hp} {l : Addr} : ∀ {bs : List (List Nat × Vl)} {ys : List V},BndV H l bs ys -> ys.length = bs.length
 | _,_,.nil=>rfl
 | _,_,.cons _ _ _ r=>by simp [BndV.length r]
theorem jqj : ∀ (cs : List Pc) (ss : List (List Nat)),(boundM cs ss).length <= cs.length
 | [],_=>Nat.le_refl _
 | c :: cs,ss=>by
  have := jqj cs (ss.drop 1)
  unfold boundM
  rw [List.length_append]
  split <;> simp only [List.length_nil,List.length_cons] <;> omega
theorem hqE : ∀ (cs : List Pc) (ss : List (List Nat)) (i : Nat) (c : Pc),cs[i]? = some c -> boundM (cs.take (i + 1)) ss = boundM (cs.take i) ss ++ (if c.isStep then [] else [(c.name,bvM c (ss.drop i))])
 | [],ss,i,c,h=>by simp at h
 | d :: cs,ss,0,c,h=>by
  cases h
  show _ ++ boundM (cs.take 0) (ss.drop 1) = boundM [] ss ++ _
  simp [boundM]
 | d :: cs,ss,i + 1,c,h=>by
  have := hqE cs (ss.drop 1) i c (by simpa using h)
  show _ ++ boundM (cs.take (i + 1)) (ss.drop 1) = (_ ++ boundM (cs.take i) (ss.drop 1)) ++ _
  rw [this,List.append_assoc,List.drop_drop,Nat.add_comm 1 i]
theorem iq3 {cs ds : List Pc} {n : Nat} (h : spreadM cs n = some ds) : cs.length <= n /\ ∃ es,ds = cs ++ es := by
 unfold spreadM at h
 split at h
 ·rename_i hh
  cases h
  exact ⟨hh.2,_,rfl⟩
 ·split at h
  ·rename_i hh
   cases h
   exact ⟨by omega,[],by simp⟩
  ·cases h
theorem pqI {cs : List Pc} {cl r e : Bool} {ss : List (List Nat)} (h : fitsP cs cl r ss e = true) {i : Nat} {c : Pc} (hc : cs[i]? = some c) : ∃ s,ss[i]? = some s /\ fitsM c s = true := by
 unfold fitsP at h
 split at h
 ·cases h
 ·rename_i ds hd
  obtain ⟨hl,es,rfl⟩ := iq3 hd
  have hi := (List.getElem?_eq_some_iff.mp hc).1
  have hs : ss[i]? = some ss[i] := List.getElem?_eq_getElem (by omega)
  refine ⟨_,hs,?_⟩
  have ha := (Bool.and_eq_true _ _ ▸ h).2
  have hz : (List.zipWith fitsM (cs ++ es) ss)[i]? = some (fitsM c ss[i]) := by
   rw [List.getElem?_zipWith,List.getElem?_append_left hi,hc,hs]
  exact List.all_eq_true.mp ha _ (List.mem_of_getElem? hz)
theorem oq8 {n s : List Nat} (h : fitsM (.num n) s = true) : 1 <= s.length /\ s.length <= 60 /\ s.all isFig = true := by
 unfold fitsM numB at h
 simp only [Bool.and_eq_true,decide_eq_true_eq] at h
 exact ⟨h.2.1.1.1,h.2.1.1.2,h.2.1.2⟩
theorem fq8 {h n t s : List Nat} (hf : fitsM (.part h n t) s = true) : (Pc.part h n t).head.length + (Pc.part h n t).tail.length <= s.length := by
 unfold fitsM partB at hf
 simp only [Bool.and_eq_true,decide_eq_true_eq] at hf
 have := hf.2.2.2
 show h.length + t.length <= s.length
 omega
theorem jqE (xs : List V) : cutV xs (some (-1)) none = xs.drop (xs.length - 1) := by
 unfold cutV
 rw [HT.sIx_none]
 have e : HT.sIx xs.length 0 (some (-1)) = xs.length - 1 := by
  unfold HT.sIx
  simp only [if_pos (show (-1 : Int) < 0 by decide)]
  omega
 rw [e,List.take_of_length_le (by rw [List.length_drop]; omega)]
theorem PcAll.drop {K : PySem.W.Frag} {H : Hp} : ∀ {cs : List Pc} {xs : List V},PcAll K H cs xs -> ∀ i,PcAll K H (cs.drop i) (xs.drop i)
 | _,_,h,0=>h
 | _,_,.nil,i + 1=>.nil
 | _,_,.cons _ r,i + 1=>r.drop i
theorem PcAll.reps {K : PySem.W.Frag} {H : Hp} {cs : List Pc} {xs : List V} (h : PcAll K H cs xs) : ∀ m : Nat,PcAll K H (List.replicate m cs).flatten (List.replicate m xs).flatten
 | 0=>.nil
 | m + 1=>by
  rw [List.replicate_succ,List.replicate_succ,List.flatten_cons,List.flatten_cons]
  exact (h.reps m).append h
theorem pqB {α : Type} (xs : List α) (m : Nat) (h : xs.length <= 1) : (List.replicate m xs).flatten.length <= m := by
 induction m with
 | zero=>simp
 | succ m ih =>
  rw [List.replicate_succ,List.flatten_cons,List.length_append]
  omega
def PcSz (cs : List Pc) : Prop := ∀ c ∈ cs,c.head.length <= 100000 /\ c.tail.length <= 100000
theorem mqI {cs ds : List Pc} {n : Nat} (h : spreadM cs n = some ds) : ∀ c ∈ ds,c ∈ cs := by
 unfold spreadM at h
 split at h
 ·cases h
  intro c hc
  rcases List.mem_append.mp hc with hc | hc
  ·exact hc
  ·obtain ⟨l,hl,hc⟩ := List.mem_flatten.mp hc
   rw [List.eq_of_mem_replicate hl] at hc
   exact List.mem_of_mem_drop hc
 ·split at h
  ·cases h; exact fun c hc=>hc
  ·cases h
theorem iqU {cs ds : List Pc} {n : Nat} (h : spreadM cs n = some ds) : ds.length = n := by
 unfold spreadM at h
 split at h
 ·rename_i hh
  cases h
  have hne : cs ≠ [] := by rintro rfl; exact absurd hh.1 (by decide)
  have hp := List.length_pos_iff.mpr hne
  have e : ∀ m,(List.replicate m (cs.drop (cs.length - 1))).flatten.length = m := fun m=>by
   induction m with
   | zero=>simp
   | succ m ih =>
    rw [List.replicate_succ,List.flatten_cons,List.length_append,ih,List.length_drop]
    omega
  rw [List.length_append,e]
  omega
 ·split at h
  ·rename_i hh
   cases h; omega
  ·cases h
theorem mqv (xs : List V) (i : Nat) : cutV xs (some (i : Int)) none = xs.drop i := by
 unfold cutV
 rw [HT.sIx_none,HT.sIx_nat]
 by_cases h : i <= xs.length
 ·rw [Nat.min_eq_left h,List.take_of_length_le (by rw [List.length_drop]; omega)]
 ·rw [Nat.min_eq_right (by omega),List.drop_of_length_le (Nat.le_refl _),List.drop_of_length_le (by omega)]
  simp
theorem sqN (i : Int) : ∃ c,atI smaL (i % 26) = some c /\ isSma c = true := by
 have h1 := Int.emod_nonneg i (show (26 : Int) ≠ 0 by decide)
 have h2 := Int.emod_lt_of_pos i (show (0 : Int) < 26 by decide)
 have hl : smaL.length = 26 := by decide +kernel
 have h3 : (i % 26).toNat < smaL.length := by omega
 refine ⟨smaL[(i % 26).toNat],?_,(oqg _ (lq5 _ (List.getElem_mem h3))).mp (List.getElem_mem h3)⟩
 have := aqi (List.getElem?_eq_getElem h3)
 rw [Int.toNat_of_nonneg h1] at this
 exact this
def PcOk : Pc -> Prop
 | .step s=>0 < s.length /\ s.length <= 100 /\ (∀ c ∈ s,isSg c = true) /\ isDot s = false
 | .part h _ t=>h.length <= 100 /\ t.length <= 100 /\ (∀ c ∈ h,isSg c = true) /\ (∀ c ∈ t,isSg c = true) /\ h ++ t ≠ []
 | _=>True
theorem pqS (l : List Nat) (d : Nat) (h : d ≠ 46) : isDot (l ++ [d]) = false := by
 refine bq3.mpr ⟨fun z=>?_,fun z=>?_⟩
 ·have : (l ++ [d]).getLast? = sUp.getLast? := by rw [z]
  rw [List.getLast?_append] at this
  exact h (by simpa [sUp] using this)
 ·have : (l ++ [d]).getLast? = sStay.getLast? := by rw [z]
  rw [List.getLast?_append] at this
  exact h (by simpa [sStay] using this)
theorem gqW {H : Hp} : ∀ (ss : List Nat),IsAll H (ss.map fun c=>st [c]) (ss.map fun c=>V.str ⟨#[c]⟩)
 | [] => .nil
 | c :: ss=>.cons (.str _) (gqW ss)
theorem layL {n : Nat} {ds : List PyData} (h : ∀ d ∈ ds,LayAt n d) : LayAt (n + 1) (.list ds) := by
 obtain ⟨h1,h2⟩ := layAll h
 exact ⟨by simp only [PyData.canLay0,h1],by simp only [PyData.depth]; omega⟩
theorem jqa {ss : List Nat} (h : ∀ c ∈ ss,isSg c = true) : SeqAt.shaped (.list (ss.map fun c=>st [c])) = true := by
 refine LayAt.shaped (n := 1) (layL (n := 0) fun d hd=>?_) (by decide)
 obtain ⟨c,hc,rfl⟩ := List.mem_map.mp hd
 exact .st fun e he=>by rw [List.mem_singleton.mp he]; exact h c hc
theorem oq2 (l : List Nat) : (l.filter fun c=>!decide (c ∈ fgS)).isEmpty = l.all isFig := by
 rw [<- nqh]
 induction l with
 | nil=>rfl
 | cons c l ih =>
  rw [List.filter_cons,List.all_cons]
  by_cases h : c ∈ fgS
  ·rw [decide_eq_true h]; simpa using ih
  ·rw [decide_eq_false h]; rfl
theorem oqW (l : List Nat) : (l.filter fun c=>!decide (c ∈ smaL)).isEmpty = l.all isSma := by
 rw [nqs]
 induction l with
 | nil=>rfl
 | cons c l ih =>
  rw [List.filter_cons,List.all_cons]
  by_cases h : c ∈ smaL
  ·rw [decide_eq_true h]; simpa using ih
  ·rw [decide_eq_false h]; rfl
def vlD : Vl -> PyData
 | .txt l=>st l
 | .int i=>.int i
 | .lst ls=>.list (ls.map st)
theorem eq6 {H : Hp} : ∀ (ls : List (List Nat)),IsAll H (ls.map st) (ls.map tV)
 | [] => .nil
 | l :: ls=>.cons (.str _) (eq6 ls)
theorem VlV.is {H : Hp} : ∀ {x : Vl} {v : V},VlV H x v -> Is H (vlD x) v
 | .txt l,_,h=>by cases h; exact .str _
 | .int i,_,h=>by cases h; exact .int _
 | .lst ls,_,⟨p,e,h⟩=>by cases e; exact .lst h (eq6 ls)
theorem sqi {l : List Nat} (h : l.all isSma = true) : ∀ c ∈ l,isSg c = true := fun c hc=>by
 have := List.all_eq_true.mp h c hc
 simp only [isSma,decide_eq_true_eq] at this
 simp only [isSg,Bool.and_eq_true,decide_eq_true_eq,Bool.not_eq_true',decide_eq_false_iff_not]
 omega
def PatOk (ps : List Pc) : Prop := (∀ c ∈ ps,PcOk c) /\ ∀ i c,ps[i]? = some c -> c.isRest = true -> i + 1 = ps.length
def NmAt (X : Int) (a k : Nat) (n : List Nat) : Prop := ∃ d,n[a]? = some d /\ atI smaL ((X + (k : Int)) % 26) = some d
theorem NmAt.app {X : Int} {a k : Nat} {n m : List Nat} (h : NmAt X a k n) : NmAt X a k (n ++ m) := by
 obtain ⟨d,h1,h2⟩ := h
 exact ⟨d,by rw [List.getElem?_append_left (List.getElem?_eq_some_iff.mp h1).1]; exact h1,h2⟩
theorem rqn : ∀ i,i < 26 -> ∀ j,j < 26 -> smaL[i]? = smaL[j]? -> i = j := by decide +kernel
theorem pqR {X : Int} {a : Nat} {ns : List (List Nat)} (h : ∀ (k : Nat) (n : List Nat),ns[k]? = some n -> NmAt X a k n) (hl : ns.length <= 26) : ns.Nodup := by
 rw [List.nodup_iff_pairwise_ne,List.pairwise_iff_getElem]
 intro i j hi hj hij e
 obtain ⟨d,h1,h2⟩ := h i _ (List.getElem?_eq_getElem hi)
 obtain ⟨d',h3,h4⟩ := h j _ (List.getElem?_eq_getElem hj)
 rw [e,h3] at h1
 cases h1
 have m1 := Int.emod_nonneg (X + (i : Int)) (show (26 : Int) ≠ 0 by decide)
 have m2 := Int.emod_lt_of_pos (X + (i : Int)) (show (0 : Int) < 26 by decide)
 have m3 := Int.emod_nonneg (X + (j : Int)) (show (26 : Int) ≠ 0 by decide)
 have m4 := Int.emod_lt_of_pos (X + (j : Int)) (show (0 : Int) < 26 by decide)
 have at_get : ∀ {z : Int},0 <= z -> z < 26 -> atI smaL z = smaL[z.toNat]? := fun {z} z0 z1=>by
  obtain ⟨n,rfl⟩ := Int.eq_ofNat_of_zero_le z0
  have hl : smaL.length = 26 := by decide +kernel
  have hn : n < smaL.length := by omega
  rw [aqi (List.getElem?_eq_getElem hn),<- List.getElem?_eq_getElem hn]
  rfl
 rw [at_get m1 m2] at h2
 rw [at_get m3 m4] at h4
 have := rqn _ (by omega) _ (by omega) (h2.trans h4.symm)
 omega
inductive PcT (H : Hp) : List Pc -> List V -> Prop
 | nil : PcT H [] []
 | cons {c : Pc} {p : Addr} {cs : List Pc} {xs : List V} : H p = some (.tup c.vals) -> PcT H cs xs -> PcT H (c :: cs) (.ref p :: xs)
theorem PcT.mono {H H' : Hp} (s : SameT H H') : ∀ {cs : List Pc} {xs : List V},PcT H cs xs -> PcT H' cs xs
 | _,_,.nil=>.nil
 | _,_,.cons h r=>.cons (s _ _ h) (PcT.mono s r)
theorem PcT.all {K : PySem.W.Frag} {H : Hp} : ∀ {cs : List Pc} {xs : List V},PcT H cs xs -> PcAll K H cs xs
 | _,_,.nil=>.nil
 | _,_,.cons h r=>.cons (.of h) (PcT.all r)
theorem PcT.length {H : Hp} : ∀ {cs : List Pc} {xs : List V},PcT H cs xs -> xs.length = cs.length
 | _,_,.nil=>rfl
 | _,_,.cons _ r=>by simp [PcT.length r]
theorem PcT.append {H : Hp} {ds : List Pc} {ys : List V} (h2 : PcT H ds ys) : ∀ {cs : List Pc} {xs : List V},PcT H cs xs -> PcT H (cs ++ ds) (xs ++ ys)
 | _,_,.nil=>h2
 | _,_,.cons h r=>.cons h (PcT.append h2 r)
theorem PcT.get {H : Hp} : ∀ {cs : List Pc} {xs : List V},PcT H cs xs -> ∀ {i : Nat} {v : V},xs[i]? = some v -> ∃ c p,cs[i]? = some c /\ v = .ref p /\ H p = some (.tup c.vals)
 | _,_,.cons h _,0,_,e=>by cases e; exact ⟨_,_,rfl,rfl,h⟩
 | _,_,.cons _ r,i + 1,_,e=>PcT.get r (i := i) (by simpa using e)
 | _,_,.nil,_,_,e=>by cases e
def pcD (c : Pc) : PyData := .tuple (.str c.kw :: match c with
 | .step s=>[st s]
 | .part h n t=>[st h,st n,st t]
 | .num n=>[st n]
 | .word n=>[st n]
 | .gap n=>[st n]
 | .rest n=>[st n])
theorem PcT.isT {H : Hp} : ∀ {cs : List Pc} {xs : List V},PcT H cs xs -> IsTAll H (cs.map pcD) xs
 | _,_,.nil=>.nil
 | c :: _,_,.cons h r=>by
  refine .cons ?_ (PcT.isT r)
  cases c with
  | step s=>exact .tup h (.cons (.str _) (.cons (.str _) .nil))
  | part a b d=>exact .tup h (.cons (.str _) (.cons (.str _) (.cons (.str _) (.cons (.str _) .nil))))
  | num n=>exact .tup h (.cons (.str _) (.cons (.str _) .nil))
  | word n=>exact .tup h (.cons (.str _) (.cons (.str _) .nil))
  | gap n=>exact .tup h (.cons (.str _) (.cons (.str _) .nil))
  | rest n=>exact .tup h (.cons (.str _) (.cons (.str _) .nil))
def PcSg (c : Pc) : Prop := (∀ l,c = .step l -> ∀ x ∈ l,isSg x = true) /\ (∀ h n t,c = .part h n t -> (∀ x ∈ h,isSg x = true) /\ ∀ x ∈ t,isSg x = true) /\ ∀ x ∈ c.name,isSg x = true
theorem jqB {c : Pc} (h : PcSg c) : LayAt 1 (pcD c) := by
 have kwl : ∀ s : Str,s ∈ [Str.ofString "step", Str.ofString "part", Str.ofString "number", Str.ofString "word", Str.ofString "gap", Str.ofString "rest"] -> LayAt 0 (PyData.str s) := fun s hs=>by
  have all : ∀ s ∈ [Str.ofString "step", Str.ofString "part", Str.ofString "number", Str.ofString "word", Str.ofString "gap", Str.ofString "rest"],∀ x ∈ s.cps.toList,isSg x = true := by decide +kernel
  exact LayAt.st (l := s.cps.toList) (all s hs)
 have one : ∀ (k : Str) (l : List Nat),k ∈ [Str.ofString "step", Str.ofString "part", Str.ofString "number", Str.ofString "word", Str.ofString "gap", Str.ofString "rest"] -> (∀ x ∈ l,isSg x = true) -> LayAt 1 (.tuple [.str k,st l]) := fun k l hk hl=>LayAt.tup (n := 0) fun d hd=>by
  simp only [List.mem_cons,List.not_mem_nil,or_false] at hd
  rcases hd with rfl | rfl
  ·exact kwl k hk
  ·exact LayAt.st hl
 cases c with
 | step s=>exact one _ s (by simp [Pc.kw]) (h.1 s rfl)
 | part a b d =>
  obtain ⟨h1,h2⟩ := h.2.1 a b d rfl
  refine LayAt.tup (n := 0) fun x hx=>?_
  simp only [List.mem_cons,List.not_mem_nil,or_false] at hx
  rcases hx with rfl | rfl | rfl | rfl
  ·exact kwl _ (by simp [Pc.kw])
  ·exact LayAt.st h1
  ·exact LayAt.st h.2.2
  ·exact LayAt.st h2
 | num n=>exact one _ n (by simp [Pc.kw]) h.2.2
 | word n=>exact one _ n (by simp [Pc.kw]) h.2.2
 | gap n=>exact one _ n (by simp [Pc.kw]) h.2.2
 | rest n=>exact one _ n (by simp [Pc.kw]) h.2.2
theorem jqD {cs : List Pc} (h : ∀ c ∈ cs,PcSg c) : LayAt 2 (.list (cs.map pcD)) := layL fun d hd=>by
 obtain ⟨c,hc,rfl⟩ := List.mem_map.mp hd
 exact jqB (h c hc)
theorem oqR {cs : List Pc} (h : ∀ c ∈ cs,PcSg c) : LayAt 2 (.tuple (cs.map pcD)) := LayAt.tup fun d hd=>by
 obtain ⟨c,hc,rfl⟩ := List.mem_map.mp hd
 exact jqB (h c hc)
end Wm
namespace L2
open PySem PySem.Spec PyProof.Rows
section
variable {p : Addr} {fv : St} {tt : TT} {te : TE} {Q : VK} {H H1 : Hp} {K : PySem.W.Frag}
theorem qqg {l b : Addr} : rExtend (.ref l) [.ref b] H Q ↔ ∃ xs zs,H l = some (.lst xs) /\ H b = some (.lst zs) /\ xs.length + zs.length <= sizeLine /\ Q .non (upd H l (.lst (xs ++ zs))) := by
 constructor
 ·rintro ⟨l',b',xs,zs,h1,h2,h3⟩
  cases h1; cases h2
  exact ⟨xs,zs,h3⟩
 ·rintro ⟨xs,zs,h⟩
  exact ⟨l,b,xs,zs,rfl,rfl,h⟩
theorem nqP {tl : TE} {fr : List Nat} {σ : St} : (tComp2 K (iList K tl) fr tt te σ H Q) = (tl σ H fun x H1=>∃ a,x = .ref a /\ (∃ xs,SqL K H1 a xs) /\ ∀ p,H1 p = none -> CompI2 K (Itl K a) p (frV σ fr) tt te Q H1) := rfl
theorem lqp {a : Addr} {xs : List V} (f : Nat -> V × V) (t : Nat -> Bool) (g : Nat -> V) (hxs : SqL K H1 a xs) (hlen : xs.length <= sizeLine) (hp : H1 p = none)
  (hit : ∀ (i : Nat) (x : V) (H' : Hp),xs[i]? = some x -> Same H1 H' -> ∃ b,x = .ref b /\ SqT K H' b [(f i).1,(f i).2])
  (ht : ∀ (i : Nat),i < xs.length -> ∀ (H' : Hp) (R : Bool -> Hp -> Prop),Same H1 H' -> (∀ H'',Same H' H'' -> R (t i) H'') -> tt (some (f i).1 :: some (f i).2 :: fv) H' R)
  (he : ∀ (i : Nat),i < xs.length -> t i = true -> ∀ (H' : Hp) (T : VK),Same H1 H' -> (∀ H'',Same H' H'' -> T (g i) H'') -> te (some (f i).1 :: some (f i).2 :: fv) H' T)
  (hQ : ∀ H',Same H1 H' -> H' p = some (.lst (((List.range xs.length).filter t).map g)) -> Q (.ref p) H') : CompI2 K (Itl K a) p fv tt te Q H1 := by
 refine ⟨fun i m ys H2=>m = xs.length - i /\ i <= xs.length /\ ys = ((List.range i).filter t).map g /\ H2 p = some (.lst ys) /\ Same H1 H2,⟨xs.length,by simp,Nat.zero_le _,by simp,aqj,fun b o e=>by rw [aqo (aqm e hp)]; exact e⟩,?_⟩
 rintro i m ys H2 ⟨rfl,hi,rfl,hp2,sm⟩
 refine ⟨hp2,?_⟩
 have q := sm.seq hxs
 by_cases hlt : i < xs.length
 ·refine .inr ⟨⟨xs,xs[i],q,by simp [hlt]⟩,?_,fun x H3 y=>?_⟩
  ·rw [List.length_map]
   have := List.length_filter_le t (List.range i)
   rw [List.length_range] at this
   omega
  ·obtain ⟨rfl,y⟩ := y
   have hc := y xs q
   obtain ⟨b,rfl,hb⟩ := hit i x H3 hc sm
   refine ⟨b,_,_,rfl,hb,?_⟩
   refine ht i hlt _ _ sm fun H4 s4=>?_
   by_cases hf : t i = true
   ·rw [if_pos hf]
    refine he i hlt hf _ _ (sm.trans s4) fun H5 s5=>⟨(s4.trans s5) _ _ hp2,xs.length - (i + 1),by omega,rfl,hlt,?_,aqj,fun b o e=>?_⟩
    ·rw [List.range_succ,List.filter_append,List.map_append]; simp [hf]
    ·rw [aqo (aqm e hp)]; exact (s4.trans s5) _ _ (sm _ _ e)
   ·rw [if_neg hf]
    refine ⟨xs.length - (i + 1),by omega,rfl,hlt,?_,s4 _ _ hp2,sm.trans s4⟩
    rw [List.range_succ,List.filter_append,List.map_append]; simp [hf]
 ·have e : i = xs.length := by omega
  subst e
  exact .inl ⟨⟨xs,q,Nat.le_refl _⟩,hQ H2 sm hp2⟩
theorem gqx {a : Addr} {xs : List V} (t : Nat -> Bool) (g : Nat -> V) (hxs : SqT K H1 a xs) (hlen : xs.length <= sizeLine) (hp : H1 p = none)
  (ht : ∀ (i : Nat) (x : V),xs[i]? = some x -> ∀ (H' : Hp) (R : Bool -> Hp -> Prop),Same H1 H' -> (∀ H'',Same H' H'' -> R (t i) H'') -> tt (some x :: fv) H' R)
  (he : ∀ (i : Nat) (x : V),xs[i]? = some x -> t i = true -> ∀ (H' : Hp) (T : VK),Same H1 H' -> (∀ H'',Same H' H'' -> T (g i) H'') -> te (some x :: fv) H' T)
  (hQ : ∀ H',Same H1 H' -> H' p = some (.lst (((List.range xs.length).filter t).map g)) -> Q (.ref p) H') : CompI (Itt K a) p fv tt te Q H1 := by
 refine ⟨fun i m ys H2=>m = xs.length - i /\ i <= xs.length /\ ys = ((List.range i).filter t).map g /\ H2 p = some (.lst ys) /\ Same H1 H2,⟨xs.length,by simp,Nat.zero_le _,by simp,aqj,fun b o e=>by rw [aqo (aqm e hp)]; exact e⟩,?_⟩
 rintro i m ys H2 ⟨rfl,hi,rfl,hp2,sm⟩
 refine ⟨hp2,?_⟩
 have q := sm.tup hxs
 by_cases hlt : i < xs.length
 ·refine .inr ⟨⟨xs,xs[i],q,by simp [hlt]⟩,?_,fun x H3 y=>?_⟩
  ·rw [List.length_map]
   have := List.length_filter_le t (List.range i)
   rw [List.length_range] at this
   omega
  ·obtain ⟨rfl,y⟩ := y
   have hc := y xs q
   refine ht i x hc _ _ sm fun H4 s4=>?_
   by_cases hf : t i = true
   ·rw [if_pos hf]
    refine he i x hc hf _ _ (sm.trans s4) fun H5 s5=>⟨(s4.trans s5) _ _ hp2,xs.length - (i + 1),by omega,rfl,hlt,?_,aqj,fun b o e=>?_⟩
    ·rw [List.range_succ,List.filter_append,List.map_append]; simp [hf]
    ·rw [aqo (aqm e hp)]; exact (s4.trans s5) _ _ (sm _ _ e)
   ·rw [if_neg hf]
    refine ⟨xs.length - (i + 1),by omega,rfl,hlt,?_,s4 _ _ hp2,sm.trans s4⟩
    rw [List.range_succ,List.filter_append,List.map_append]; simp [hf]
 ·have e : i = xs.length := by omega
  subst e
  exact .inl ⟨⟨xs,q,Nat.le_refl _⟩,hQ H2 sm hp2⟩
end
end L2
namespace Wm
open PySem L2
theorem gq8 {α β : Type} (f : α -> Bool) (g : α -> β) (d : β) : ∀ (l : List α),((List.range l.length).filter fun i=>(l[i]?.map f).getD false).map (fun i=>(l[i]?.map g).getD d) = (l.filter f).map g
 | [] => rfl
 | a :: l=>by
  have ih := gq8 f g d l
  have e2 : ((((List.range l.length).map Nat.succ).filter fun i=>(((a :: l)[i]?).map f).getD false).map fun i=>(((a :: l)[i]?).map g).getD d) = (l.filter f).map g := by
   rw [List.filter_map,List.map_map,<- ih]
   rfl
  rw [List.length_cons,List.range_succ_eq_map,List.filter_cons]
  by_cases hf : f a = true
  ·rw [if_pos (by simp [hf]),List.map_cons,e2,List.filter_cons,if_pos hf,List.map_cons]
   rfl
  ·rw [if_neg (by simp [hf]),e2,List.filter_cons,if_neg hf]
def canD : PyData -> Bool
 | .str s=>s.cps.toList.all isSg && decide (0 < s.length) && !isDot s.cps.toList
 | _=>false
def txD : PyData -> List Nat
 | .str s=>s.cps.toList
 | _=>[]
def isValD (c : Pc) (d : PyData) : Bool := match c with
 | .rest _=>match d with
  | .list ds=>decide (0 < ds.length) && ds.all canD
  | _=>false
 | .num _=>match d with
  | .int i=>decide (0 <= i /\ i < 10 ^ 60)
  | _=>false
 | .word _=>match d with
  | .str s=>wordB s.cps.toList
  | _=>false
 | .step _=>false
 | .part h _ t=>ftx d && !isDot (h ++ txD d ++ t)
 | .gap _=>ftx d && !isDot (txD d)
def stpsD (c : Pc) (d : PyData) : List (List Nat) := match c with
 | .rest _=>match d with
  | .list ds=>ds.map txD
  | _=>[]
 | .num _=>match d with
  | .int i=>[dg i]
  | _=>[]
 | .step s=>[s]
 | c=>[c.head ++ txD d ++ c.tail]
inductive VlsV (H : Hp) : List (List Nat × PyData) -> List V -> Prop
 | nil : VlsV H [] []
 | cons {n : List Nat} {d : PyData} {p : Addr} {v : V} {vs : List (List Nat × PyData)} {xs : List V} : H p = some (.tup [tV n,v]) -> Is H d v -> VlsV H vs xs -> VlsV H ((n,d) :: vs) (.ref p :: xs)
theorem VlsV.mono {H H' : Hp} (s : Same H H') : ∀ {vs : List (List Nat × PyData)} {xs : List V},VlsV H vs xs -> VlsV H' vs xs
 | _,_,.nil=>.nil
 | _,_,.cons h a r=>.cons (s _ _ h) (a.mono s) (VlsV.mono s r)
theorem VlsV.length {H : Hp} : ∀ {vs : List (List Nat × PyData)} {xs : List V},VlsV H vs xs -> xs.length = vs.length
 | _,_,.nil=>rfl
 | _,_,.cons _ _ r=>by simp [VlsV.length r]
theorem VlsV.get {H : Hp} : ∀ {vs : List (List Nat × PyData)} {xs : List V},VlsV H vs xs -> ∀ {i : Nat} {x : V},xs[i]? = some x -> ∃ n d p v,vs[i]? = some (n,d) /\ x = .ref p /\ H p = some (.tup [tV n,v]) /\ Is H d v
 | _,_,.cons h a _,0,_,e=>by cases e; exact ⟨_,_,_,_,rfl,rfl,h,a⟩
 | _,_,.cons _ _ r,i + 1,_,e=>VlsV.get r (i := i) (by simpa using e)
 | _,_,.nil,_,_,e=>by cases e
def gapsM (cs : List Pc) : List (List Nat) := (cs.filter fun c=>!c.isStep).map Pc.name
def named (vs : List (List Nat × PyData)) (n : List Nat) : List PyData := (vs.filter fun p=>decide (p.1 = n)).map (·.2)
def fillS (c : Pc) (vs : List (List Nat × PyData)) : Except (List Nat) (List (List Nat)) := match c with
 | .step s=>.ok [s]
 | c=>match named vs c.name with
  | [d] => if isValD c d = true then .ok (stpsD c d) else .error c.name
  | _=>.error c.name
def fillF : List Pc -> List (List Nat × PyData) -> Except (List Nat) (List (List Nat))
 | [],_=>.ok []
 | c :: cs,vs=>match fillS c vs with
  | .error n=>.error n
  | .ok a=>match fillF cs vs with
   | .error n=>.error n
   | .ok b=>.ok (a ++ b)
def otherM (cs : List Pc) (vs : List (List Nat × PyData)) : Option (List Nat) := (vs.find? fun p=>!decide (p.1 ∈ gapsM cs)).map (·.1)
def fillM (cs : List Pc) (vs : List (List Nat × PyData)) : Except (List Nat) (List (List Nat)) := match fillF cs vs with
 | .error n=>.error n
 | .ok ss=>match otherM cs vs with
  | some n=>.error n
  | none=>.ok ss
theorem lqr {H : Hp} {vs : List (List Nat × PyData)} {xs : List V} (h : VlsV H vs xs) (n : List Nat) (g : Nat -> V) (hg : ∀ i m d p v,vs[i]? = some (m,d) -> xs[i]? = some (.ref p) -> H p = some (.tup [tV m,v]) -> g i = v) :
  IsAll H (named vs n) (((List.range xs.length).filter fun i=>decide ((vs[i]?.map (·.1)) = some n)).map g) := by
 induction h generalizing g with
 | nil=>exact .nil
 | cons hp ha r ih =>
  rename_i m d p v vs xs
  have e : List.range (V.ref p :: xs).length = 0 :: (List.range xs.length).map Nat.succ := by rw [List.length_cons,List.range_succ_eq_map]
  have ih' := ih (fun i=>g (i + 1)) (fun i m d p v h1 h2 h3=>hg (i + 1) m d p v (by simpa using h1) (by simpa using h2) h3)
  have e2 : ((((List.range xs.length).map Nat.succ).filter fun i=>decide ((((m,d) :: vs)[i]?.map (·.1)) = some n)).map g) = (((List.range xs.length).filter fun i=>decide ((vs[i]?.map (·.1)) = some n)).map fun i=>g (i + 1)) := by
   rw [List.filter_map,List.map_map]
   rfl
  rw [e,List.filter_cons]
  have g0 : g 0 = v := hg 0 m d p v rfl rfl hp
  by_cases hm : m = n
  ·have e3 : named ((m,d) :: vs) n = d :: named vs n := by unfold named; rw [List.filter_cons,if_pos (by simp [hm])]; rfl
   rw [e3,if_pos (by simp [hm]),List.map_cons,e2,g0]
   exact .cons ha ih'
  ·have e3 : named ((m,d) :: vs) n = named vs n := by unfold named; rw [List.filter_cons,if_neg (by simp [hm])]
   rw [e3,if_neg (by simp [hm]),e2]
   exact ih'
theorem kq1 {H : Hp} : ∀ {ds : List PyData} {xs : List V},IsAll H ds xs -> ds.all canD = true -> xs = (ds.map txD).map tV
 | _,_,.nil,_=>rfl
 | d :: ds,_,.cons h r,hc=>by
  rw [List.all_cons,Bool.and_eq_true] at hc
  have := kq1 r hc.2
  cases d with
  | str s=>cases h; rw [this]; rfl
  | _=>cases hc.1
theorem oqx {c : Pc} {vs : List (List Nat × PyData)} {ss : List (List Nat)} (h : fillS c vs = .ok ss) (hs : ∀ p ∈ vs,smallD p.2 = true) : ss.length <= 100000 := by
 have gen : ∀ c : Pc,(match named vs c.name with | [d] => if isValD c d = true then (.ok (stpsD c d) : Except (List Nat) (List (List Nat))) else .error c.name | _=>.error c.name) = .ok ss -> (∀ d,d ∈ named vs c.name -> isValD c d = true -> (stpsD c d).length <= 100000) -> ss.length <= 100000 := fun c h hd=>by
  cases hn : named vs c.name with
  | nil=>rw [hn] at h; cases h
  | cons d r =>
   cases r with
   | nil =>
    rw [hn] at h hd
    by_cases hv : isValD c d = true
    ·have h : (if isValD c d = true then (.ok (stpsD c d) : Except (List Nat) (List (List Nat))) else .error c.name) = .ok ss := h
     rw [if_pos hv] at h
     cases h
     exact hd d (List.mem_singleton.mpr rfl) hv
    ·have h : (if isValD c d = true then (.ok (stpsD c d) : Except (List Nat) (List (List Nat))) else .error c.name) = .ok ss := h
     rw [if_neg hv] at h
     cases h
   | cons _ _=>rw [hn] at h; cases h
 have hsd : ∀ n d,d ∈ named vs n -> smallD d = true := fun n d hd=>by
  obtain ⟨p,hp,rfl⟩ := List.mem_map.mp hd
  exact hs p (List.mem_filter.mp hp).1
 cases c with
 | step s=>cases h; exact (show 1 <= 100000 by decide)
 | part a b e=>exact gen _ h fun d _ _=>(by show 1 <= 100000; decide)
 | word n=>exact gen _ h fun d _ _=>(by show 1 <= 100000; decide)
 | gap n=>exact gen _ h fun d _ _=>(by show 1 <= 100000; decide)
 | num n =>
  refine gen _ h fun d _ hv=>?_
  cases d with
  | int i=>exact (by show 1 <= 100000; decide)
  | _=>exact Nat.zero_le _
 | rest n =>
  refine gen _ h fun d hd _=>?_
  cases d with
  | list ds =>
   have := hsd _ _ hd
   simp only [smallD,Bool.and_eq_true,decide_eq_true_eq] at this
   show (ds.map txD).length <= 100000
   rw [List.length_map]
   exact this.1
  | _=>exact Nat.zero_le _
theorem iq7 {vs : List (List Nat × PyData)} : ∀ {cs : List Pc} {i : Nat} {c : Pc} {a b : List (List Nat)},cs[i]? = some c -> fillF (cs.take i) vs = .ok a -> fillS c vs = .ok b -> fillF (cs.take (i + 1)) vs = .ok (a ++ b)
 | [],_,_,_,_,h,_,_=>by cases h
 | d :: cs,0,c,a,b,h,h1,h2=>by
  cases h; cases h1
  show fillF [d] vs = _
  unfold fillF fillF
  rw [h2]
  simp
 | d :: cs,i + 1,c,a,b,h,h1,h2=>by
  have h : cs[i]? = some c := by simpa using h
  have h1 : fillF (d :: cs.take i) vs = .ok a := h1
  show fillF (d :: cs.take (i + 1)) vs = _
  unfold fillF at h1 ⊢
  cases hd : fillS d vs with
  | error n=>rw [hd] at h1; cases h1
  | ok x =>
   rw [hd] at h1
   cases hf : fillF (cs.take i) vs with
   | error n=>rw [hf] at h1; cases h1
   | ok y =>
    rw [hf] at h1
    cases h1
    have := iq7 h hf h2
    rw [this]
    simp
theorem kqK {vs : List (List Nat × PyData)} {n : List Nat} : ∀ {cs : List Pc} {i : Nat} {c : Pc} {a : List (List Nat)},cs[i]? = some c -> fillF (cs.take i) vs = .ok a -> fillS c vs = .error n -> fillF cs vs = .error n
 | [],_,_,_,h,_,_=>by cases h
 | d :: cs,0,c,a,h,h1,h2=>by
  cases h
  unfold fillF
  rw [h2]
 | d :: cs,i + 1,c,a,h,h1,h2=>by
  have h : cs[i]? = some c := by simpa using h
  have h1 : fillF (d :: cs.take i) vs = .ok a := h1
  unfold fillF at h1 ⊢
  cases hd : fillS d vs with
  | error n=>rw [hd] at h1; cases h1
  | ok x =>
   rw [hd] at h1
   cases hf : fillF (cs.take i) vs with
   | error n=>rw [hf] at h1; cases h1
   | ok y =>
    rw [hf] at h1
    cases h1
    have := kqK h hf h2
    rw [this]
def prAt (H : Hp) (ys : List V) (i : Nat) : V × V := match ys[i]? with
 | some (.ref p)=>match H p with
  | some (.tup [a,b])=>(a,b)
  | _=>(.non,.non)
 | _=>(.non,.non)
theorem lqs {H : Hp} {ys : List V} {i : Nat} {p : Addr} {a b : V} (h : ys[i]? = some (.ref p)) (hp : H p = some (.tup [a,b])) : prAt H ys i = (a,b) := by
 unfold prAt
 rw [h]
 dsimp only
 rw [hp]
theorem fqW {c : Pc} {vs : List (List Nat × PyData)} (h : c.isStep = false) : fillS c vs = (match named vs c.name with | [d] => if isValD c d = true then .ok (stpsD c d) else .error c.name | _=>.error c.name) := by
 cases c with
 | step s=>cases h
 | _=>rfl
end Wm
namespace L2
open PySem
theorem kqy {X : Cx} {K : PySem.W.Frag} (h : X.K = K) : OpR X (compareOp .NotIn) (rIn K true) := by subst h; exact kqt
end L2
namespace Wm
open PySem L2
theorem mqb {cs : List Pc} {n : List Nat} {d : PyData} : ∀ {ws : List (List Nat × PyData)} {i : Nat},ws[i]? = some (n,d) -> (∀ w ∈ ws.take i,w.1 ∈ gapsM cs) -> n ∉ gapsM cs -> otherM cs ws = some n
 | [],_,h,_,_=>by cases h
 | w :: ws,0,h,_,hn=>by
  cases h
  unfold otherM
  rw [List.find?_cons_of_pos (by simp [hn])]
  rfl
 | w :: ws,i + 1,h,hp,hn=>by
  have hw := hp w (by simp)
  have ih := mqb (ws := ws) (i := i) (by simpa using h) (fun x hx=>hp x (by simp [hx])) hn
  unfold otherM at ih ⊢
  rw [List.find?_cons_of_neg (by simp [hw])]
  exact ih
theorem iqW {cs : List Pc} {ws : List (List Nat × PyData)} (h : ∀ w ∈ ws,w.1 ∈ gapsM cs) : otherM cs ws = none := by
 unfold otherM
 rw [List.find?_eq_none.mpr (fun w hw=>by simp [h w hw])]
 rfl
theorem lq9 (cs : List Pc) : (gapsM cs).length <= cs.length := by
 unfold gapsM
 rw [List.length_map]
 exact List.length_filter_le _ _
theorem rqP : ∀ (k : Nat) (ds : List Nat),ds.length = k -> ds ≠ [] -> (∀ c ∈ ds,48 <= c /\ c <= 57) -> (ds = [48] \/ ds.head? ≠ some 48) -> (Nat.toDigits 10 (valD ds)).map Char.toNat = ds := by
 intro k
 induction k with
 | zero=>intro ds hl hn; exact absurd (List.length_eq_zero_iff.mp hl) hn
 | succ k ih =>
  intro ds hl hn hd h0
  have key : ∀ n,n < 10 -> ([Nat.digitChar n].map Char.toNat) = [48 + n] := by decide +kernel
  obtain ⟨as,c,rfl⟩ : ∃ as c,ds = as ++ [c] := ⟨ds.dropLast,ds.getLast hn,(List.dropLast_concat_getLast hn).symm⟩
  have hc := hd c (List.mem_append_right _ (List.mem_singleton.mpr rfl))
  rw [gqb]
  cases has : as with
  | nil =>
   have ev : valD ([] : List Nat) = 0 := rfl
   rw [ev,Nat.zero_mul,Nat.zero_add,Nat.toDigits_of_lt_base (by omega),key _ (by omega)]
   show [48 + (c - 48)] = [c]
   congr 1; omega
  | cons a as' =>
   rw [<- has]
   have hne : as ≠ [] := by rw [has]; simp
   have ha48 : a ≠ 48 := fun z=>by
    rcases h0 with h0 | h0
    ·have := congrArg List.length h0
     rw [List.length_append,has] at this
     simp at this
    ·refine h0 ?_
     rw [has,z]; rfl
   have ha := hd a (by rw [has]; simp)
   have hp := pqT has (by omega)
   have hi := ih as (by rw [List.length_append,List.length_singleton] at hl; omega) hne (fun x hx=>hd x (List.mem_append_left _ hx)) (.inr (by rw [has]; intro z; exact ha48 (Option.some.inj z)))
   rw [Nat.toDigits_of_base_le (by decide) (by omega),List.map_append]
   rw [show (valD as * 10 + (c - 48)) / 10 = valD as by omega,show (valD as * 10 + (c - 48)) % 10 = c - 48 by omega,hi,key _ (by omega)]
   congr 1
   show [48 + (c - 48)] = [c]
   congr 1; omega
theorem mqG : ∀ (k : Nat) (ds : List Nat),ds.length = k -> (∀ c ∈ ds,48 <= c /\ c <= 57) -> valD ds < 10 ^ k := by
 intro k
 induction k with
 | zero=>intro ds hl _; rw [List.length_eq_zero_iff.mp hl]; decide
 | succ k ih =>
  intro ds hl hd
  have hn : ds ≠ [] := fun z=>by rw [z] at hl; cases hl
  obtain ⟨as,c,rfl⟩ : ∃ as c,ds = as ++ [c] := ⟨ds.dropLast,ds.getLast hn,(List.dropLast_concat_getLast hn).symm⟩
  have hc := hd c (List.mem_append_right _ (List.mem_singleton.mpr rfl))
  have := ih as (by rw [List.length_append,List.length_singleton] at hl; omega) (fun x hx=>hd x (List.mem_append_left _ hx))
  rw [gqb,Nat.pow_succ]
  omega
theorem oql {l : List Nat} (h : l.all isFig = true) (h0 : 1 <= l.length) (h1 : l.length <= 60) : intOf l = (valD l : Int) := by
 have e := intText_digits (x := ⟨l.toArray⟩) (fun c hc=>by
  have := List.all_eq_true.mp h c (by simpa using hc)
  simpa [isFig] using this) (by intro z; simp at z; rw [z] at h0; simp at h0) (by show l.length <= 4300; omega)
 unfold intOf
 rw [e]
 rfl
theorem qqL {l : List Nat} (h : l.all isFig = true) : ∀ c ∈ l,48 <= c /\ c <= 57 := fun c hc=>by
 have := List.all_eq_true.mp h c hc
 simpa [isFig] using this
theorem pql {s : List Nat} (h : numB s = true) : dg (intOf s) = s /\ 0 <= intOf s /\ intOf s < 10 ^ 60 := by
 unfold numB at h
 simp only [Bool.and_eq_true,decide_eq_true_eq,Bool.or_eq_true,Bool.not_eq_true',decide_eq_false_iff_not] at h
 obtain ⟨⟨⟨h1,h2⟩,h3⟩,h4⟩ := h
 have hf := qqL h3
 rw [oql h3 h1 h2]
 have hn : s ≠ [] := List.length_pos_iff.mp h1
 refine ⟨?_,by omega,?_⟩
 ·unfold dg
  rw [PySem.W.KIN.signs_num]
  exact rqP _ s rfl hn hf h4
 ·have := mqG _ s rfl hf
  have h10 : 10 ^ s.length <= 10 ^ 60 := Nat.pow_le_pow_right (by decide) h2
  have : valD s < 10 ^ 60 := Nat.lt_of_lt_of_le this h10
  exact_mod_cast this
theorem iql {h t s : List Nat} (hp : partB h t s = true) : h ++ amid h t s ++ t = s /\ amid h t s ≠ [] := by
 unfold partB at hp
 simp only [Bool.and_eq_true,decide_eq_true_eq] at hp
 obtain ⟨h1,h2,h3⟩ := hp
 unfold amid
 constructor
 ·have e1 : h ++ s.drop h.length = s := by
   conv=>rhs; rw [<- List.take_append_drop h.length s]
   rw [h1]
  have e2 : (s.drop h.length).drop (s.length - t.length - h.length) = t := by
   rw [List.drop_drop,show h.length + (s.length - t.length - h.length) = s.length - t.length by omega]
   exact h2
  rw [List.append_assoc]
  have e3 : (s.drop h.length).take (s.length - t.length - h.length) ++ t = s.drop h.length := by
   conv=>rhs; rw [<- List.take_append_drop (s.length - t.length - h.length) (s.drop h.length)]
   rw [e2]
  rw [e3,e1]
 ·intro z
  have := congrArg List.length z
  rw [List.length_take,List.length_drop] at this
  simp at this
  omega
def SgT (s : List Nat) : Prop := s ≠ [] /\ ∀ c ∈ s,isSg c = true
theorem lqH {s : List Nat} (h : SgT s) : ftx (st s) = true := by
 simp only [ftx,nqp,Bool.and_eq_true,decide_eq_true_eq]
 exact ⟨List.all_eq_true.mpr h.2,List.length_pos_iff.mpr h.1⟩
theorem pqL {c : Pc} {s : List Nat} {r : List (List Nat)} (hs : c.isStep = false) (hr : c.isRest = false) (hf : fitsM c s = true) (hg : SgT s) : isValD c (vlD (bvM c (s :: r))) = true /\ stpsD c (vlD (bvM c (s :: r))) = [s] := by
 unfold fitsM at hf
 rw [Bool.and_eq_true,Bool.not_eq_true'] at hf
 obtain ⟨hd,hf⟩ := hf
 cases c with
 | step w=>cases hs
 | rest n=>cases hr
 | part h n t =>
  obtain ⟨e,ne⟩ := iql hf
  have ea : vlD (bvM (.part h n t) (s :: r)) = st (amid h t s) := rfl
  rw [ea]
  refine ⟨?_,?_⟩
  ·show (ftx (st (amid h t s)) && !isDot (h ++ amid h t s ++ t)) = true
   rw [e,hd,lqH ⟨ne,fun c hc=>hg.2 c (by rw [<- e]; simp [hc])⟩]
   rfl
  ·show [h ++ amid h t s ++ t] = [s]
   rw [e]
 | num n =>
  obtain ⟨h1,h2,h3⟩ := pql hf
  have ea : vlD (bvM (.num n) (s :: r)) = .int (intOf s) := rfl
  rw [ea]
  exact ⟨decide_eq_true ⟨h2,h3⟩,by show [dg (intOf s)] = [s]; rw [h1]⟩
 | word n =>
  have ea : vlD (bvM (.word n) (s :: r)) = st s := by show st (amid [] [] s) = st s; rw [mqo]
  rw [ea]
  exact ⟨hf,by show [[] ++ s ++ []] = [s]; simp⟩
 | gap n =>
  have ea : vlD (bvM (.gap n) (s :: r)) = st s := by show st (amid [] [] s) = st s; rw [mqo]
  rw [ea]
  refine ⟨?_,by show [[] ++ s ++ []] = [s]; simp⟩
  show (ftx (st s) && !isDot s) = true
  rw [lqH hg,hd]; rfl
theorem qqO {s : List Nat} (h : SgT s) (hd : isDot s = false) : canD (st s) = true := by
 show (s.all isSg && decide (0 < (⟨s.toArray⟩ : Str).length) && !isDot s) = true
 rw [List.all_eq_true.mpr h.2,decide_eq_true (show 0 < (⟨s.toArray⟩ : Str).length by rw [cqy]; exact List.length_pos_iff.mpr h.1),hd]
 rfl
theorem nqx {n : List Nat} {ss : List (List Nat)} (hn : ss ≠ []) (h : ∀ s ∈ ss,SgT s /\ isDot s = false) : isValD (.rest n) (vlD (bvM (.rest n) ss)) = true /\ stpsD (.rest n) (vlD (bvM (.rest n) ss)) = ss := by
 have ea : vlD (bvM (.rest n) ss) = .list (ss.map st) := rfl
 rw [ea]
 refine ⟨?_,?_⟩
 ·show (decide (0 < (ss.map st).length) && (ss.map st).all canD) = true
  rw [decide_eq_true (by rw [List.length_map]; exact List.length_pos_iff.mpr hn),Bool.true_and]
  refine List.all_eq_true.mpr fun d hd=>?_
  obtain ⟨s,hs,rfl⟩ := List.mem_map.mp hd
  exact qqO (h s hs).1 (h s hs).2
 ·show (ss.map st).map txD = ss
  rw [List.map_map]
  conv=>rhs; rw [<- List.map_id ss]
  rfl
theorem mq2 {ws : List (List Nat × PyData)} {n : List Nat} (h : n ∉ ws.map (·.1)) : named ws n = [] := by
 unfold named
 rw [List.filter_eq_nil_iff.mpr fun p hp=>by
  simp only [decide_eq_true_eq]
  exact fun z=>h (by rw [<- z]; exact List.mem_map_of_mem hp)]
 rfl
theorem kqx : ∀ {ws : List (List Nat × PyData)} {n : List Nat} {d : PyData},(ws.map (·.1)).Nodup -> (n,d) ∈ ws -> named ws n = [d]
 | [],_,_,_,h=>by cases h
 | w :: ws,n,d,hn,h=>by
  rw [List.map_cons,List.nodup_cons] at hn
  rcases List.mem_cons.mp h with rfl | h
  ·have : named ((n,d) :: ws) n = d :: named ws n := by unfold named; rw [List.filter_cons,if_pos (by simp)]; rfl
   rw [this,mq2 hn.1]
  ·have hne : w.1 ≠ n := fun z=>hn.1 (by rw [z]; exact List.mem_map_of_mem (f := (·.1)) h)
   have : named (w :: ws) n = named ws n := by unfold named; rw [List.filter_cons,if_neg (by simp [hne])]
   rw [this]
   exact kqx hn.2 h
theorem fqp : ∀ (cs : List Pc) (ss : List (List Nat)),(boundM cs ss).map (·.1) = gapsM cs
 | [],_=>rfl
 | c :: cs,ss=>by
  have ih := fqp cs (ss.drop 1)
  show ((if c.isStep then [] else [(c.name,bvM c ss)]) ++ boundM cs (ss.drop 1)).map (·.1) = _
  rw [List.map_append,ih]
  unfold gapsM
  rw [List.filter_cons]
  cases c.isStep <;> rfl
theorem gqz {ns : List (List Nat)} (hn : ns.Nodup) : ∀ {cs : List Pc} (k : Nat),(∀ (i : Nat) (c : Pc),cs[i]? = some c -> c.isStep = false -> ns[k + i]? = some c.name) -> (gapsM cs).Nodup /\ ∀ n ∈ gapsM cs,∃ j,k <= j /\ ns[j]? = some n
 | [],_,_=>⟨List.nodup_nil,fun n h=>by cases h⟩
 | c :: cs,k,h=>by
  obtain ⟨i1,i2⟩ := gqz hn (cs := cs) (k + 1) fun i d hd hs=>by
   have := h (i + 1) d (by simpa using hd) hs
   rw [<- this]; congr 1; omega
  have e : gapsM (c :: cs) = (if c.isStep then [] else [c.name]) ++ gapsM cs := by
   unfold gapsM
   rw [List.filter_cons]
   cases c.isStep <;> rfl
  rw [e]
  cases hs : c.isStep with
  | true=>exact ⟨i1,fun n hn' => by obtain ⟨j,h1,h2⟩ := i2 n hn'; exact ⟨j,by omega,h2⟩⟩
  | false =>
   have h0 : ns[k]? = some c.name := h 0 c rfl hs
   refine ⟨?_,fun n hn' => ?_⟩
   ·show (c.name :: gapsM cs).Nodup
    rw [List.nodup_cons]
    refine ⟨fun z=>?_,i1⟩
    obtain ⟨j,h1,h2⟩ := i2 _ z
    obtain ⟨a1,a2⟩ := List.getElem?_eq_some_iff.mp h0
    obtain ⟨b1,b2⟩ := List.getElem?_eq_some_iff.mp h2
    rw [List.nodup_iff_pairwise_ne,List.pairwise_iff_getElem] at hn
    exact hn k j a1 b1 (by omega) (a2.trans b2.symm)
   ·rcases List.mem_cons.mp (show n ∈ c.name :: gapsM cs from hn') with rfl | z
    ·exact ⟨k,Nat.le_refl _,h0⟩
    ·obtain ⟨j,h1,h2⟩ := i2 n z; exact ⟨j,by omega,h2⟩
theorem iqo {cs : List Pc} {cl r e : Bool} {ss : List (List Nat)} (h : fitsP cs cl r ss e = true) : r = true /\ e = cl /\ ((∀ c ∈ cs,c.isRest = false) -> ss.length = cs.length) /\ cs.length <= ss.length /\ ∀ s ∈ ss,isDot s = false := by
 unfold fitsP at h
 cases hs : spreadM cs ss.length with
 | none=>rw [hs] at h; cases h
 | some ds =>
  rw [hs] at h
  have h : (r && decide (e = cl) && (List.zipWith fitsM ds ss).all id) = true := h
  rw [Bool.and_eq_true,Bool.and_eq_true,decide_eq_true_eq] at h
  have hdl := iqU hs
  refine ⟨h.1.1,h.1.2,fun hn=>?_,(iq3 hs).1,fun s hsm=>?_⟩
  ·unfold spreadM at hs
   by_cases hr : hasRest cs = true /\ cs.length <= ss.length
   ·exfalso
    have hh := hr.1
    unfold hasRest at hh
    cases hg : cs.getLast? with
    | none=>rw [hg] at hh; cases hh
    | some c =>
     rw [hg] at hh
     have hc := hn c (List.mem_of_getLast? hg)
     have hh : c.isRest = true := hh
     rw [hc] at hh
     cases hh
   ·rw [if_neg hr] at hs
    by_cases hl : ss.length = cs.length
    ·exact hl
    ·rw [if_neg hl] at hs; cases hs
  ·obtain ⟨i,hi⟩ := List.mem_iff_getElem?.mp hsm
   have hil := (List.getElem?_eq_some_iff.mp hi).1
   have hd : ds[i]? = some ds[i] := List.getElem?_eq_getElem (by omega)
   have hz : fitsM ds[i] s ∈ List.zipWith fitsM ds ss := by
    rw [List.mem_iff_getElem?]
    exact ⟨i,by rw [List.getElem?_zipWith,hd,hi]⟩
   have := List.all_eq_true.mp h.2 _ hz
   have this : fitsM ds[i] s = true := this
   unfold fitsM at this
   rw [Bool.and_eq_true,Bool.not_eq_true'] at this
   exact this.1
theorem pq8 {c : Nat} (h : 48 <= c /\ c <= 57) : isSg c = true := by
 simp only [isSg,Bool.and_eq_true,decide_eq_true_eq,Bool.not_eq_true',decide_eq_false_iff_not]
 omega
theorem qqG {k : Nat} : ∀ {n : Nat},0 < k -> n < 10 ^ k -> (Nat.toDigits 10 n).length <= k := by
 induction k with
 | zero=>intro n h; cases h
 | succ k ih =>
  intro n _ h
  by_cases hn : n < 10
  ·rw [Nat.toDigits_of_lt_base hn]; simp
  ·rw [Nat.toDigits_of_base_le (by decide) (by omega),List.length_append,List.length_singleton]
   cases k with
   | zero=>omega
   | succ k =>
    have := ih (n := n / 10) (by omega) (by rw [Nat.pow_succ] at h; omega)
    omega
theorem kqa {n : Nat} (h : n < 10 ^ 60) : (Nat.toDigits 10 n).length <= 60 := qqG (by decide) h
theorem fqu : ∀ {ds : List PyData},(∀ d ∈ ds,PyData.eqv d d = true) -> PyData.eqvAll ds ds = true
 | [],_=>by simp [PyData.eqvAll]
 | d :: ds,h=>by
  have h1 := h d (List.mem_cons_self ..)
  have h2 := fqu (ds := ds) fun x hx=>h x (List.mem_cons_of_mem _ hx)
  simp [PyData.eqvAll,h1,h2]
theorem lqZ {ds : List PyData} (h : ∀ d ∈ ds,PyData.eqv d d = true) : PyData.eqv (.list ds) (.list ds) = true := by
 simp [PyData.eqv,fqu h]
theorem hqM {ds : List PyData} (h : ∀ d ∈ ds,PyData.eqv d d = true) : PyData.eqv (.tuple ds) (.tuple ds) = true := by
 simp [PyData.eqv,fqu h]
theorem lq3 (l : List Nat) : PyData.eqv (st l) (st l) = true := by simp [PyData.eqv]
theorem oq6 (b : Bool) : PyData.eqv (.bool b) (.bool b) = true := by simp [PyData.eqv]
def VlOk : Vl -> Prop
 | .txt l=>(∀ c ∈ l,isSg c = true) /\ l.length <= 20000
 | .int _=>True
 | .lst ls=>(∀ l ∈ ls,(∀ c ∈ l,isSg c = true) /\ l.length <= 20000) /\ ls.length <= 20000
theorem VlOk.small {x : Vl} (h : VlOk x) : smallD (vlD x) = true := by
 cases x with
 | txt l=>simp only [vlD,smallD,nqp,decide_eq_true_eq]; have := h.2; omega
 | int i=>rfl
 | lst ls=>exact kq6 (by rw [List.length_map]; have := h.2; omega) (hqV fun d hd=>by
   obtain ⟨l,hl,rfl⟩ := List.mem_map.mp hd
   simp only [smallD,nqp,decide_eq_true_eq]; have := (h.1 l hl).2; omega)
theorem fqr {h t s : List Nat} : ∀ c ∈ amid h t s,c ∈ s := fun c hc=>List.mem_of_mem_drop (List.mem_of_mem_take hc)
theorem dqW {h t s : List Nat} : (amid h t s).length <= s.length := by unfold amid; rw [List.length_take,List.length_drop]; omega
theorem lq4 : ∀ {cs : List Pc} {ss : List (List Nat)},(∀ s ∈ ss,(∀ c ∈ s,isSg c = true) /\ s.length <= 20000) -> ss.length <= 20000 -> ∀ p ∈ boundM cs ss,VlOk p.2
 | [],_,_,_,p,hp=>by cases hp
 | c :: cs,ss,h,hl,p,hp=>by
  have hp : p ∈ (if c.isStep then [] else [(c.name,bvM c ss)]) ++ boundM cs (ss.drop 1) := hp
  rcases List.mem_append.mp hp with z | z
  ·cases hs : c.isStep with
   | true=>rw [hs] at z; cases z
   | false =>
    rw [hs] at z
    have hh : (∀ x ∈ ss.headD [],isSg x = true) /\ (ss.headD []).length <= 20000 := by
     cases ss with
     | nil=>exact ⟨(fun x hx=>by cases hx),Nat.zero_le _⟩
     | cons s ss=>exact h s (List.mem_cons_self ..)
    have z : p = (c.name,bvM c ss) := by simpa using z
    rw [z]
    cases c with
    | step w=>cases hs
    | rest n=>exact ⟨h,hl⟩
    | num n=>trivial
    | part a n t=>exact ⟨fun x hx=>hh.1 x (fqr x hx),Nat.le_trans dqW hh.2⟩
    | word n=>exact ⟨fun x hx=>hh.1 x (fqr x hx),Nat.le_trans dqW hh.2⟩
    | gap n=>exact ⟨fun x hx=>hh.1 x (fqr x hx),Nat.le_trans dqW hh.2⟩
  ·exact lq4 (fun s hs=>h s (List.mem_of_mem_drop hs)) (by rw [List.length_drop]; omega) p z
theorem BndV.vls {H : Hp} {l : Addr} : ∀ {bs : List (List Nat × Vl)} {ys : List V},BndV H l bs ys -> VlsV H (bs.map fun p=>(p.1,vlD p.2)) ys
 | _,_,.nil=>.nil
 | _,_,.cons a b _ r=>.cons a b.is (BndV.vls r)
def wyD (r : Bool) (ss : List (List Nat)) (e : Bool) : PyData := .tuple [.bool r,.tuple (ss.map st),.bool e]
theorem rqa {r e : Bool} {ss : List (List Nat)} (h : ∀ s ∈ ss,∀ c ∈ s,isSg c = true) : LayAt 2 (wyD r ss e) := LayAt.tup (n := 1) fun d hd=>by
 simp only [List.mem_cons,List.not_mem_nil,or_false] at hd
 rcases hd with rfl | rfl | rfl
 ·exact LayAt.bool.le (by decide)
 ·exact LayAt.tup (n := 0) fun d hd=>by obtain ⟨s,hs,rfl⟩ := List.mem_map.mp hd; exact LayAt.st (h s hs)
 ·exact LayAt.bool.le (by decide)
theorem sqF {H : Hp} {r e : Bool} {ss : List (List Nat)} {pw ps : Addr} (h1 : H pw = some (.tup [.bl r,.ref ps,.bl e])) (h2 : H ps = some (.tup (ss.map tV))) : Is H (wyD r ss e) (.ref pw) :=
 .tup h1 (.cons (.bl _) (.cons (.tup h2 (eq6 ss)) (.cons (.bl _) .nil)))
theorem mqh (xs : List V) (i : Nat) : cutV xs none (some (i : Int)) = xs.take i := by
 unfold cutV
 rw [HT.sIx_none,HT.sIx_nat,List.drop_zero,Nat.sub_zero]
 by_cases h : i <= xs.length
 ·rw [Nat.min_eq_left h]
 ·rw [Nat.min_eq_right (by omega),List.take_length,List.take_of_length_le (by omega)]
theorem hq0 {ns : List (List Nat)} (h : ns.Nodup) {r j : Nat} (hr : r <= j) (hj : j < ns.length) : (ns.take r ++ [ns[j]]).Nodup := by
 rw [List.nodup_append]
 refine ⟨h.sublist (List.take_sublist _ _),by simp,fun a ha b hb e=>?_⟩
 rw [List.mem_singleton] at hb
 obtain ⟨i,hi⟩ := List.mem_iff_getElem?.mp ha
 have hil := (List.getElem?_eq_some_iff.mp hi).1
 rw [List.length_take] at hil
 rw [List.getElem?_take,if_pos (by omega)] at hi
 obtain ⟨h1,h2⟩ := List.getElem?_eq_some_iff.mp hi
 rw [List.nodup_iff_pairwise_ne,List.pairwise_iff_getElem] at h
 exact h i j h1 hj (by omega) (by rw [h2,e,hb])
def trS : List Nat := [97,98,48,49]
def trialsM (h t : List Nat) : List (List Nat) := trS.map fun c=>h ++ [c] ++ t
def fitT (c : Pc) : List (List Nat) := (match c with | .step w=>[w] | c=>trialsM c.head c.tail).filter (fitsM c)
def stepBey (c d : Pc) : Option (List Nat) := (fitT c).find? fun s=>!fitsM d s
theorem mqe {c : Pc} {s : List Nat} (h : fitsM c s = true) : isDot s = false := by
 unfold fitsM at h
 rw [Bool.and_eq_true] at h
 simpa using h.1
theorem mqU {ds ts : List Pc} {n : Nat} (h : spreadM ds n = some ts) : ts.length = n /\ ∀ i,i < n -> (i < ds.length /\ ts[i]? = ds[i]?) \/ (ds.length <= i /\ hasRest ds = true /\ ∃ c,ts[i]? = some c /\ c.isRest = true /\ c ∈ ds) := by
 unfold spreadM at h
 by_cases hr : hasRest ds = true /\ ds.length <= n
 ·rw [if_pos hr] at h
  cases h
  have hne : ds ≠ [] := fun e=>by subst e; exact absurd hr.1 (by decide)
  obtain ⟨c,hc⟩ : ∃ c,ds.getLast? = some c := ⟨_,List.getLast?_eq_some_getLast hne⟩
  have hcr : c.isRest = true := by
   have := hr.1
   unfold hasRest at this
   rw [hc] at this
   exact this
  have hd : ds.drop (ds.length - 1) = [c] := by
   rw [List.getLast?_eq_getElem?] at hc
   have hl := List.length_pos_iff.mpr hne
   obtain ⟨h1,h2⟩ := List.getElem?_eq_some_iff.mp hc
   rw [List.drop_eq_getElem_cons h1,h2,List.drop_eq_nil_of_le (by omega)]
  rw [hd]
  have hfl : ∀ k : Nat,(List.replicate k [c]).flatten = List.replicate k c := fun k=>by
   induction k with
   | zero=>rfl
   | succ k ih=>rw [List.replicate_succ,List.flatten_cons,ih]; rfl
  rw [hfl]
  refine ⟨by rw [List.length_append,List.length_replicate]; omega,fun i hi=>?_⟩
  by_cases hil : i < ds.length
  ·exact .inl ⟨hil,List.getElem?_append_left hil⟩
  ·refine .inr ⟨by omega,hr.1,c,?_,hcr,List.mem_of_getLast? hc⟩
   rw [List.getElem?_append_right (by omega),List.getElem?_replicate,if_pos (by omega)]
 ·rw [if_neg hr] at h
  by_cases e : n = ds.length
  ·rw [if_pos e] at h
   cases h
   exact ⟨e.symm,fun i hi=>.inl ⟨by omega,rfl⟩⟩
  ·rw [if_neg e] at h
   cases h
theorem mqf : ∀ {ms : List Pc} {ss : List (List Nat)},(List.zipWith fitsM ms ss).all id = true ↔ ∀ (i : Nat) (c : Pc) (s : List Nat),ms[i]? = some c -> ss[i]? = some s -> fitsM c s = true
 | [],ss=>⟨fun _ i c s h=>by simp at h,fun _=>rfl⟩
 | c :: ms,[] => ⟨fun _ i c s _ h=>by simp at h,fun _=>rfl⟩
 | c :: ms,s :: ss=>by
  rw [List.zipWith_cons_cons,List.all_cons,Bool.and_eq_true,mqf]
  constructor
  ·rintro ⟨h1,h2⟩ i c' s' hc hs
   cases i with
   | zero=>cases hc; cases hs; exact h1
   | succ i=>exact h2 i c' s' hc hs
  ·intro h
   exact ⟨h 0 c s rfl rfl,fun i c' s' hc hs=>h (i + 1) c' s' hc hs⟩
theorem kqo {cs : List Pc} {cl r e : Bool} {ss : List (List Nat)} : fitsP cs cl r ss e = true ↔ ∃ ms,spreadM cs ss.length = some ms /\ r = true /\ e = cl /\ ∀ (i : Nat) (c : Pc) (s : List Nat),ms[i]? = some c -> ss[i]? = some s -> fitsM c s = true := by
 unfold fitsP
 cases h : spreadM cs ss.length with
 | none=>exact ⟨fun h=>(by cases h),fun ⟨_,h,_⟩=>(by cases h)⟩
 | some ms =>
  show (r && decide (e = cl) && _) = true ↔ _
  rw [Bool.and_eq_true,Bool.and_eq_true,decide_eq_true_eq,mqf]
  exact ⟨fun ⟨⟨a,b⟩,c⟩=>⟨ms,rfl,a,b,c⟩,fun ⟨ms',e',a,b,c⟩=>by cases e'; exact ⟨⟨a,b⟩,c⟩⟩
end Wm
namespace L2
open PySem
section
variable {p : Addr} {fv : St} {tt : TT} {te : TE} {Q : VK} {H1 : Hp}
theorem lqt {n : Nat} (f : Nat -> Bool) (g : Nat -> V) (hlen : n <= sizeLine) (hp : H1 p = none)
  (ht : ∀ i,i < n -> ∀ (H' : Hp) (R : Bool -> Hp -> Prop),Same H1 H' -> (∀ H'',Same H' H'' -> R (f i) H'') -> tt (some (.int (0 + (i : Int))) :: fv) H' R)
  (he : ∀ i,i < n -> f i = true -> ∀ (H' : Hp) (T : VK),Same H1 H' -> (∀ H'',Same H' H'' -> T (g i) H'') -> te (some (.int (0 + (i : Int))) :: fv) H' T)
  (hQ : ∀ H',Same H1 H' -> H' p = some (.lst (((List.range n).filter f).map g)) -> Q (.ref p) H') : CompI (Itr 0 n) p fv tt te Q H1 := by
 refine ⟨fun i m ys H2=>m = n - i /\ i <= n /\ ys = ((List.range i).filter f).map g /\ H2 p = some (.lst ys) /\ Same H1 H2,⟨n,by simp,Nat.zero_le _,by simp,aqj,fun b o e=>by rw [aqo (aqm e hp)]; exact e⟩,?_⟩
 rintro i m ys H2 ⟨rfl,hi,rfl,hp2,sm⟩
 refine ⟨hp2,?_⟩
 by_cases hlt : i < n
 ·refine .inr ⟨hlt,?_,fun x H3 y=>?_⟩
  ·rw [List.length_map]
   have := List.length_filter_le f (List.range i)
   rw [List.length_range] at this
   omega
  ·obtain ⟨rfl,rfl⟩ := y
   refine ht i hlt _ _ sm fun H4 s4=>?_
   by_cases hf : f i = true
   ·rw [if_pos hf]
    refine he i hlt hf _ _ (sm.trans s4) fun H5 s5=>⟨(s4.trans s5) _ _ hp2,n - (i + 1),by omega,rfl,hlt,?_,aqj,fun b o e=>?_⟩
    ·rw [List.range_succ,List.filter_append,List.map_append]; simp [hf]
    ·rw [aqo (aqm e hp)]; exact (s4.trans s5) _ _ (sm _ _ e)
   ·rw [if_neg hf]
    refine ⟨n - (i + 1),by omega,rfl,hlt,?_,s4 _ _ hp2,sm.trans s4⟩
    rw [List.range_succ,List.filter_append,List.map_append]; simp [hf]
 ·have e : i = n := by omega
  subst e
  exact .inl ⟨Nat.le_refl _,hQ H2 sm hp2⟩
end
end L2
namespace Wm
open PySem L2
theorem jqe {H : Hp} : ∀ l : List Int,IsAll H (l.map PyData.int) (l.map V.int)
 | [] => .nil
 | c :: ss=>.cons (.int _) (jqe ss)
theorem lqz (l : List Int) : SeqAt.shaped (.list (l.map PyData.int)) = true := by
 refine LayAt.shaped (n := 1) (layL (n := 0) fun d hd=>?_) (by decide)
 obtain ⟨c,hc,rfl⟩ := List.mem_map.mp hd
 exact ⟨rfl,Nat.le_refl _⟩
theorem hqT {cs : List Pc} {c : Pc} {n : Nat} (hc : cs.getLast? = some c) (hr : c.isRest = true) (hn : cs.length <= n) : spreadM cs n = some (cs ++ List.replicate (n - cs.length) c) := by
 have h : hasRest cs = true := by unfold hasRest; rw [hc]; exact hr
 unfold spreadM
 rw [if_pos ⟨h,hn⟩]
 have hd : cs.drop (cs.length - 1) = [c] := by
  rw [List.getLast?_eq_getElem?] at hc
  obtain ⟨h1,h2⟩ := List.getElem?_eq_some_iff.mp hc
  rw [List.drop_eq_getElem_cons h1,h2,List.drop_eq_nil_of_le (by omega)]
 rw [hd]
 have hfl : ∀ k : Nat,(List.replicate k [c]).flatten = List.replicate k c := fun k=>by
  induction k with
  | zero=>rfl
  | succ k ih=>rw [List.replicate_succ,List.flatten_cons,ih]; rfl
 rw [hfl]
theorem dqS {cs : List Pc} {n : Nat} (h : hasRest cs = false \/ n < cs.length) : spreadM cs n = if cs.length = n then some cs else none := by
 unfold spreadM
 rw [if_neg (fun z=>by rcases h with h | h; rw [h] at z; exact absurd z.1 (by decide); omega)]
 by_cases e : n = cs.length
 ·rw [if_pos e,if_pos e.symm]
 ·rw [if_neg e,if_neg (fun z=>e z.symm)]
theorem PcT.rep {H : Hp} {c : Pc} {p : Addr} (h : H p = some (.tup c.vals)) : ∀ n : Nat,PcT H (List.replicate n c) (List.replicate n (.ref p))
 | 0=>.nil
 | n + 1=>.cons h (PcT.rep h n)
theorem range_all (Z : List Bool) : ((List.range Z.length).filter fun i=>!(Z[i]?.getD true)).isEmpty = Z.all id := by
 rw [Bool.eq_iff_iff,List.isEmpty_iff,List.filter_eq_nil_iff,List.all_eq_true]
 constructor
 ·intro h b hb
  obtain ⟨i,hi⟩ := List.mem_iff_getElem?.mp hb
  have := h i (List.mem_range.mpr (List.getElem?_eq_some_iff.mp hi).1)
  rw [hi] at this
  simpa using this
 ·intro h i hi
  have hi := List.mem_range.mp hi
  have := h Z[i] (List.getElem_mem hi)
  rw [List.getElem?_eq_getElem hi]
  simpa using this
def PtAt (H : Hp) (cs : List Pc) (e : Bool) (p : Addr) : Prop := ∃ (q : Addr) (xs : List V),H p = some (.tup [.ref q,.bl e]) /\ H q = some (.tup xs) /\ PcT H cs xs
theorem PtAt.mono {H H' : Hp} {cs : List Pc} {e : Bool} {p : Addr} (s : SameT H H') (h : PtAt H cs e p) : PtAt H' cs e p := by
 obtain ⟨q,xs,h1,h2,h3⟩ := h
 exact ⟨q,xs,s _ _ h1,s _ _ h2,h3.mono s⟩
def StepsOk (ss : List (List Nat)) : Prop := ss.length <= 200 /\ ∀ s ∈ ss,0 < s.length /\ s.length <= 1000 /\ ∀ c ∈ s,isSg c = true
def WyAt (H : Hp) (cs : List Pc) (e : Bool) (v : V) : Prop := ∃ (r t : Addr) (a b : Bool) (ss : List (List Nat)),v = .ref r /\ H r = some (.tup [.bl a,.ref t,.bl b]) /\ H t = some (.tup (ss.map tV)) /\ StepsOk ss /\ fitsP cs e a ss b = true
def PcsOk (cs : List Pc) : Prop := cs.length <= 90 /\ ∀ c ∈ cs,PcOk c /\ PcSg c
theorem jqv {c : Pc} (o : PcOk c) (hn : ∀ x ∈ c.name,isSg x = true) : PcSg c :=
 ⟨fun l h=>by subst h; exact o.2.2.1,fun h n t e=>by subst e; exact ⟨o.2.2.1,o.2.2.2.1⟩,hn⟩
theorem PcT.pick {H : Hp} {cs : List Pc} {xs : List V} (h : PcT H cs xs) : ∀ il : List Nat,(∀ i ∈ il,i < xs.length) -> PcT H (il.map fun i=>cs[i]?.getD (.gap [])) (il.map fun i=>xs[i]?.getD .non)
 | [],_=>.nil
 | i :: il,hi=>by
  have hlt := hi i (List.mem_cons_self ..)
  have hv : xs[i]? = some xs[i] := List.getElem?_eq_getElem hlt
  obtain ⟨c,p,hc,e,hp⟩ := h.get hv
  rw [List.map_cons,List.map_cons,hc,hv,e]
  exact .cons hp (PcT.pick h il fun j hj=>hi j (List.mem_cons_of_mem _ hj))
theorem jq2 {H H' : Hp} {a : Addr} (s : Same H H') (h : H' a = none) : H a = none := by
 cases e : H a with
 | none=>rfl
 | some o=>rw [s _ _ e] at h; cases h
theorem eqf {H H' : Hp} {l : Addr} {ys : List V} (s : Same H H') (h : H l = none) : Same H (upd H' l (.lst ys)) := fun b o hb=>by
 rw [aqo (fun w=>by subst w; rw [h] at hb; cases hb)]; exact s _ _ hb
theorem dqE {H : Hp} {l : Addr} {ys zs : List V} (h : H l = some (.lst zs)) : SameT H (upd H l (.lst ys)) := fun b o hb=>by
 rw [aqo (fun w=>by subst w; rw [h] at hb; cases hb)]; exact hb
def alikeM : Pc -> Pc -> Bool
 | .step v,.step w=>decide (v = w)
 | .part h _ t,.part h' _ t' => decide (h = h') && decide (t = t')
 | .num _,.num _=>true
 | .word _,.word _=>true
 | .gap _,.gap _=>true
 | .rest _,.rest _=>true
 | _,_=>false
structure Wid (c d : Pc) : Prop where
 ok : PcOk d
 nr : d.isRest = false
 fits : ∀ s,fitsM c s = true -> fitsM d s = true
 grown : alikeM c d = true \/ stepBey d c ≠ none
def restM (cs : List Pc) : Nat := if hasRest cs = true then cs.length - 1 else cs.length
structure WidAll (cs ds : List Pc) : Prop where
 len : ds.length = restM cs
 wid : ∀ (i : Nat) (c d : Pc),cs[i]? = some c -> ds[i]? = some d -> Wid c d
theorem PcOk.ends {c : Pc} (o : PcOk c) : c.head.length <= 100 /\ c.tail.length <= 100 := by
 cases c with
 | part h n t=>exact ⟨o.1,o.2.1⟩
 | _=>exact ⟨Nat.zero_le _,Nat.zero_le _⟩
end Wm
namespace L2
open PySem PySem.Spec PySem.W PySem.Calls PyProof.Rows
open Classical in
def tTryR (te : XK -> TE) : XK -> TS := fun Eh D σ H=>te Eh σ H D.rt
theorem rqD {X : Cx} {e : Expr} {te : XK -> TE} {pos : Pos} (he : TryE X e te) : TryB X [.Return (some e) pos] (tTryR te) := by
 intro pins s σ H D Eh I h
 refine wpAny_execs_cons (wpAny_Return_some (wpAny_mono (he pins s σ H _ Eh I h) (fun v s1 W' => ?_) fun _ _ z=>z))
 obtain ⟨y,H1,I1,r1,q1⟩ := W'
 exact ⟨y,σ,H1,I1,r1,q1⟩
theorem qqn {te : XK -> TE} {Eh : XK} {D : Ends} {σ : St} {H : Hp} : (tTryR te Eh D σ H) = (te Eh σ H D.rt) := rfl
def tTryM (K : Frag) (t : XK -> TS) (W : Addr) (tb : TS) : TS := fun D σ H=>t (fun cls d H2 =>
 ∃ C,cls = .ref C /\ subIn K (.ref C) (.ref W) = some true /\ ∀ a,H2 a = none -> tb { nx := D.nx,rt := D.rt } σ (upd H2 a (exC a C d))) { nx := D.nx,rt := D.rt } σ H
theorem qqs {X : Cx} {W : Addr} {x : Str} {np hpos pos : Pos} {body : List Stmt} {b₀ : Stmt} {suite : List Stmt} {t : XK -> TS} {tb : TS}
  (hb : TryB X body t) (hstk : X.stack = X.env :: X.outer) (hf : X.env.frame = some X.env.locals) (hgW : Gl X x) (hmW : X.mg x = some (.ref W)) (cw : Catch X.K W)
  (hbd : ∀ a,PSs (X.handling (.ref a)) (b₀ :: suite) tb) (hdW : (x == ("__debug__" : Str)) = false := by decide) :
  PS X (.Try body [.ExceptHandler (some (.Name x np)) none (b₀ :: suite) hpos] [] [] pos) (tTryM X.K t W tb) := by
 intro pins s σ H D I h
 refine wpAny_Try_except (wpAny_mono (hb pins s σ H _ _ I h) (fun fl s2 q=>?_) fun ev s2 ⟨H1,s1,I1,hq⟩=>?_)
 ·cases fl with
  | next=>exact wpAny_execs_nil q
  | ret u=>exact q
  | brk=>obtain ⟨_,_,_,q⟩ := q; exact q.elim
  | cont=>obtain ⟨_,_,_,q⟩ := q; exact q.elim
 ·obtain ⟨a,tt,C,d,B,H2,rfl,⟨C',ce,hsub,hq⟩,Wn⟩ := hq
  cases ce
  have hn : H2 a = none := Wn.f.new (h5 := s.heap) (a0 := .none)
  have fl : Heap.FlyingW B (X.env :: X.outer) a (.ref C) (.ref tt) s2.heap := hstk ▸ Wn.f.fly
  have fr : X.A.frames = some (X.env :: X.outer) := hstk ▸ I1.ok.frames
  refine wpAny_mono (gqq (hqb _ _) (wpAny_looks_onW (E := fun _ _=>False) (Q := fun _ s3=>∃ h4,s3 = { s2 with heap := h4 } /\ Heap.HeldW B (X.env :: X.outer) a (.ref C) (.ref tt) X.env.locals h4 /\ s2.heap.UpToSlots h4) fr hf fl fun h4 held4 sm4=>⟨h4,rfl,held4,sm4⟩)) (fun _ s3 W' => ?_) fun _ _ z=>z.elim
  obtain ⟨⟨h4,e3,held4,sm4⟩,sd4⟩ := W'
  subst e3
  refine wpAny_mono (gqq (equ _ _) (wpAny_landsW (E := fun _ _=>False) (s := { s2 with heap := h4 }) (Q := fun _ s3=>∃ h5,s3 = { s2 with heap := h5 } /\ Heap.FlyingW B (X.env :: X.outer) a (.ref C) (.ref tt) h5 /\ h4.UpToSlots h5) held4 fun h5 f5 sm5=>⟨h5,rfl,f5,sm5⟩)) (fun _ s3 W' => ?_) fun _ _ z=>z.elim
  obtain ⟨⟨h5,e3,f5,sm5⟩,sd5⟩ := W'
  subst e3
  have I5 := I1.caught Wn.f (hstk.symm ▸ f5) (sm4.trans sm5)
  refine wpAny_handleBy_cons (codeAny_handlers_test (iqn (X := X.handling (.ref a)) (I5.handling _) hgW hmW ?_ hdW)) (by intro q; cases q)
  obtain ⟨ob,hob,hoc⟩ := f5.there
  refine (lqB I5.kIn hob hoc cw hsub) _ _ _ _ (fun b o q=>q) ?_
  refine (codeAny_handlers_suite ?_)
  refine wpAny_mono (gqq (equ _ _) (lands_againW (E := fun _ _=>False) (s := { s2 with heap := h5 }) (Q := fun _ s3=>∃ h6,s3 = { s2 with heap := h6 } /\ Heap.FlyingW B (X.env :: X.outer) a (.ref C) (.ref tt) h6 /\ h5.UpToSlots h6) f5 fun h6 f6 sm6=>⟨h6,rfl,f6,sm6⟩)) (fun _ s3 W' => ?_) fun _ _ z=>z.elim
  obtain ⟨⟨h6,e3,f6,sm6⟩,sd6⟩ := W'
  subst e3
  have I6' := I1.caught Wn.f (hstk.symm ▸ f6) ((sm4.trans sm5).trans sm6)
  obtain ⟨oe,vs6,ho6,hc6,hd6,_⟩ := f6.first
  have I6 : Inv X pins σ (upd H2 a (exC a C d)) { s2 with heap := h6 } := by
   refine I6'.sharp ⟨oe,ho6,hc6,fun y hy=>?_,by unfold notCls; rw [hd6]⟩ fun h1 h2 ⟨o,z,c⟩ k=>⟨o,k o z,c⟩
   obtain ⟨o2,z2,zd⟩ := Wn.dc y hy
   exact (((sd4.trans sd5).trans sd6).get z2 ho6).trans zd
  refine wpAny_mono (hbd a pins _ _ _ _ (I6.handling _) (hq a hn)) (fun fl s8 q8=>?_) fun e s8 z=>z.elim
  cases fl with
  | next =>
   obtain ⟨σ',H',I',q'⟩ := q8
   exact ⟨_,_,Inv.handled I1.ok I',q'⟩
  | ret u =>
   obtain ⟨v,σ',H',I',rv,q'⟩ := q8
   exact ⟨_,_,_,Inv.handled I1.ok I',rv,q'⟩
  | brk =>
   obtain ⟨_,_,_,q'⟩ := q8
   exact q'.elim
  | cont =>
   obtain ⟨_,_,_,q'⟩ := q8
   exact q'.elim
theorem qqP {K : Frag} {t : XK -> TS} {W : Addr} {tb : TS} {D : Ends} {σ : St} {H : Hp} : (tTryM K t W tb D σ H) = (t (fun cls d H2 =>
 ∃ C,cls = .ref C /\ subIn K (.ref C) (.ref W) = some true /\ ∀ a,H2 a = none -> tb { nx := D.nx,rt := D.rt } σ (upd H2 a (exC a C d))) { nx := D.nx,rt := D.rt } σ H) := rfl
end L2
namespace Wm
open PySem L2
abbrev Wy := Bool × List (List Nat) × Bool
abbrev Pt := List Pc × Bool
def keptV (cs ds : List Pc) (ss : List (List Nat)) : List (List Nat × PyData) := ((boundM cs ss).map fun p=>(p.1,vlD p.2)).filter fun p=>decide (p.1 ∈ gapsM ds)
def ledR (r : Pt × Pt) (w : Wy) : Option Wy := if fitsP r.1.1 r.1.2 w.1 w.2.1 w.2.2 = true then (match fillM r.2.1 (keptV r.1.1 r.2.1 w.2.1) with
  | .ok ss=>some (true,ss,r.2.2)
  | .error _=>none) else none
def ledM (rs : List (Pt × Pt)) (w : Wy) : Option Wy := rs.findSome? (ledR · w)
inductive TrE | rests | more | ring
def TrE.v : TrE -> V
 | .rests=>.str (Str.ofString "rests")
 | .more=>.str (Str.ofString "more")
 | .ring=>.str (Str.ofString "ring")
def WyH (H : Hp) (w : Wy) (v : V) : Prop := ∃ r t : Addr,v = .ref r /\ H r = some (.tup [.bl w.1,.ref t,.bl w.2.2]) /\ H t = some (.tup (w.2.1.map tV))
theorem WyH.mono {H H' : Hp} {w : Wy} {v : V} (s : SameT H H') (h : WyH H w v) : WyH H' w v := by
 obtain ⟨r,t,e,h1,h2⟩ := h
 exact ⟨r,t,e,s _ _ h1,s _ _ h2⟩
def WySz (w : Wy) : Prop := w.2.1.length <= 500 /\ ∀ s ∈ w.2.1,s.length <= 20000 /\ ∀ c ∈ s,isSg c = true
def RlAt (H : Hp) (r : Pt × Pt) (v : V) : Prop := ∃ p ps pg : Addr,v = .ref p /\ H p = some (.tup [.ref ps,.ref pg]) /\ PtAt H r.1.1 r.1.2 ps /\ PtAt H r.2.1 r.2.2 pg
theorem RlAt.mono {H H' : Hp} {r : Pt × Pt} {v : V} (s : SameT H H') (h : RlAt H r v) : RlAt H' r v := by
 obtain ⟨p,ps,pg,e,h1,h2,h3⟩ := h
 exact ⟨p,ps,pg,e,s _ _ h1,h2.mono s,h3.mono s⟩
def RlOk (r : Pt × Pt) : Prop := r.1.1.length <= 90 /\ r.2.1.length <= 90 /\ (∀ c ∈ r.1.1,PcOk c) /\ ∀ c ∈ r.2.1,PcOk c
def RlsAt (H : Hp) (rs : List (Pt × Pt)) (vs : List V) : Prop := vs.length = rs.length /\ ∀ (i : Nat) (v : V),vs[i]? = some v -> ∃ r,rs[i]? = some r /\ RlAt H r v
theorem RlsAt.mono {H H' : Hp} {rs : List (Pt × Pt)} {vs : List V} (s : SameT H H') (h : RlsAt H rs vs) : RlsAt H' rs vs :=
 ⟨h.1,fun i v hv=>by obtain ⟨r,h1,h2⟩ := h.2 i v hv; exact ⟨r,h1,h2.mono s⟩⟩
theorem nqG {cs : List Pc} (h : ∀ c ∈ cs,PcOk c) : PcSz cs := fun c hc=>by have := (h c hc).ends; exact ⟨by omega,by omega⟩
theorem VlsV.filter {H : Hp} (f : List Nat -> Bool) (g : V -> Bool) : ∀ {ws : List (List Nat × PyData)} {ys : List V},VlsV H ws ys -> (∀ p n v,H p = some (.tup [tV n,v]) -> g (.ref p) = f n) -> VlsV H (ws.filter fun p=>f p.1) (ys.filter g)
 | _,_,.nil,_=>.nil
 | _,_,.cons (n := n) h a r,hg=>by
  have e := hg _ _ _ h
  have ih := VlsV.filter f g r hg
  cases hf : f n with
  | true=>rw [List.filter_cons_of_pos (by exact hf),List.filter_cons_of_pos (by rw [e,hf])]; exact .cons h a ih
  | false=>rw [List.filter_cons_of_neg (by show ¬ f n = true; rw [hf]; decide),List.filter_cons_of_neg (by rw [e,hf]; decide)]; exact ih
theorem jq3 {r : Pt × Pt} {rs : List (Pt × Pt)} {w : Wy} : ledM (r :: rs) w = (ledR r w).orElse fun _=>ledM rs w := by
 unfold ledM
 rw [List.findSome?_cons]
 cases ledR r w <;> rfl
theorem lqd : ∀ {rs : List (Pt × Pt)} {i : Nat} {r : Pt × Pt} {w w' : Wy},rs[i]? = some r -> (∀ q ∈ rs.take i,ledR q w = none) -> ledR r w = some w' -> ledM rs w = some w'
 | [],_,_,_,_,h,_,_=>by cases h
 | q :: rs,0,r,w,w',h,_,hr=>by cases h; rw [jq3,hr]; rfl
 | q :: rs,i + 1,r,w,w',h,hn,hr=>by
  rw [jq3,hn q (by simp)]
  exact lqd (i := i) (by simpa using h) (fun z hz=>hn z (by simp [hz])) hr
theorem kqW {rs : List (Pt × Pt)} {w : Wy} (h : ∀ q ∈ rs,ledR q w = none) : ledM rs w = none := List.findSome?_eq_none_iff.mpr h
def wyDD (w : Wy) : PyData := wyD w.1 w.2.1 w.2.2
theorem kqS : ∀ a b : List (List Nat),PyData.eqvAll (a.map st) (b.map st) = decide (a = b)
 | [],[] => rfl
 | [],_ :: _=>rfl
 | _ :: _,[] => rfl
 | x :: a,y :: b=>by
  show (PyData.eqv (st x) (st y) && PyData.eqvAll (a.map st) (b.map st)) = _
  rw [kqS a b]
  have : PyData.eqv (st x) (st y) = decide (x = y) := by
   show ((⟨x.toArray⟩ : Str) == ⟨y.toArray⟩) = decide (x = y)
   rw [Bool.eq_iff_iff,beq_iff_eq,decide_eq_true_eq,bq0]
  rw [this,Bool.eq_iff_iff,Bool.and_eq_true,decide_eq_true_eq,decide_eq_true_eq,decide_eq_true_eq,List.cons.injEq]
theorem pqX (w u : Wy) : PyData.eqv (wyDD w) (wyDD u) = decide (w = u) := by
 obtain ⟨a,ss,b⟩ := w
 obtain ⟨a',ss',b'⟩ := u
 show ((a == a') && (PyData.eqvAll (ss.map st) (ss'.map st) && ((b == b') && true))) = _
 rw [kqS]
 rw [Bool.eq_iff_iff]
 simp only [Bool.and_eq_true,beq_iff_eq,decide_eq_true_eq,Prod.mk.injEq]
 simp
theorem WyH.is {H : Hp} {w : Wy} {v : V} (h : WyH H w v) : Is H (wyDD w) v := by
 obtain ⟨r,t,rfl,h1,h2⟩ := h
 exact sqF h1 h2
theorem WySz.shaped {w : Wy} (h : WySz w) : SeqAt.shaped (wyDD w) = true := (rqa fun s hs=>(h.2 s hs).2).shaped (by decide)
inductive WysH (H : Hp) : List Wy -> List V -> Prop
 | nil : WysH H [] []
 | cons {w : Wy} {v : V} {ws : List Wy} {vs : List V} : WyH H w v -> WysH H ws vs -> WysH H (w :: ws) (v :: vs)
def TrE.d : TrE -> PyData
 | .rests=>.str (Str.ofString "rests")
 | .more=>.str (Str.ofString "more")
 | .ring=>.str (Str.ofString "ring")
def VlB (L M : Nat) : Vl -> Prop
 | .txt l=>(∀ c ∈ l,isSg c = true) /\ l.length <= L
 | .int _=>True
 | .lst ls=>(∀ l ∈ ls,(∀ c ∈ l,isSg c = true) /\ l.length <= L) /\ ls.length <= M
theorem lq0 {L M : Nat} : ∀ {cs : List Pc} {ss : List (List Nat)},(∀ s ∈ ss,(∀ c ∈ s,isSg c = true) /\ s.length <= L) -> ss.length <= M -> ∀ p ∈ boundM cs ss,VlB L M p.2
 | [],_,_,_,p,hp=>by cases hp
 | c :: cs,ss,h,hl,p,hp=>by
  have hp : p ∈ (if c.isStep then [] else [(c.name,bvM c ss)]) ++ boundM cs (ss.drop 1) := hp
  rcases (List.mem_append.mp hp) with z | z
  ·cases hs : c.isStep with
   | true=>rw [hs] at z; cases z
   | false =>
    rw [hs] at z
    have hh : (∀ x ∈ ss.headD [],isSg x = true) /\ (ss.headD []).length <= L := by
     cases ss with
     | nil=>exact ⟨(fun x hx=>by cases hx),Nat.zero_le _⟩
     | cons s ss=>exact h s (List.mem_cons_self ..)
    have z : p = (c.name,bvM c ss) := by simpa using z
    rw [z]
    cases c with
    | step w=>cases hs
    | rest n=>exact ⟨h,hl⟩
    | num n=>trivial
    | part a n t=>exact ⟨fun x hx=>hh.1 x (fqr x hx),Nat.le_trans dqW hh.2⟩
    | word n=>exact ⟨fun x hx=>hh.1 x (fqr x hx),Nat.le_trans dqW hh.2⟩
    | gap n=>exact ⟨fun x hx=>hh.1 x (fqr x hx),Nat.le_trans dqW hh.2⟩
  ·exact lq0 (fun s hs=>h s (List.mem_of_mem_drop hs)) (by rw [List.length_drop]; omega) p z
theorem iq0 (l : List Nat) : txD (st l) = l := rfl
theorem pqo {L M : Nat} {c : Pc} {vs : List (List Nat × PyData)} {a : List (List Nat)} (oc : PcOk c) (hL : 100 <= L) (hv : ∀ p ∈ vs,∃ x,p.2 = vlD x /\ VlB L M x) (h : fillS c vs = .ok a) :
  (a.length <= if c.isRest = true then M else 1) /\ ∀ s ∈ a,(∀ x ∈ s,isSg x = true) /\ s.length <= L + 200 := by
 cases hst : c.isStep with
 | true =>
  cases c with
  | step w =>
   have h : Except.ok [w] = (Except.ok a : Except (List Nat) (List (List Nat))) := h
   cases h
   refine ⟨Nat.le_refl _,fun s hs=>?_⟩
   rw [List.mem_singleton.mp hs]
   exact ⟨oc.2.2.1,by have := oc.2.1; omega⟩
  | _=>cases hst
 | false =>
  rw [fqW hst] at h
  obtain ⟨d,hd,hval,rfl⟩ : ∃ d,d ∈ named vs c.name /\ isValD c d = true /\ a = stpsD c d := by
   split at h
   ·rename_i d hn
    split at h
    ·rename_i hv'
     cases h
     exact ⟨d,by rw [hn]; exact List.mem_singleton.mpr rfl,hv',rfl⟩
    ·cases h
   ·cases h
  obtain ⟨p,hp,rfl⟩ := List.mem_map.mp hd
  obtain ⟨x,hx,hb⟩ := hv p (List.mem_filter.mp hp).1
  rw [hx] at hval ⊢
  cases c with
  | step w=>cases hst
  | rest n =>
   cases x with
   | txt l=>cases hval
   | int i=>cases hval
   | lst ls =>
    have e : stpsD (.rest n) (vlD (.lst ls)) = ls := by
     show (ls.map st).map txD = ls
     rw [List.map_map]
     exact List.map_id'' (fun l=>iq0 l) ls
    rw [e]
    exact ⟨hb.2,fun s hs=>⟨(hb.1 s hs).1,by have := (hb.1 s hs).2; omega⟩⟩
  | num n =>
   cases x with
   | txt l=>cases hval
   | lst ls=>cases hval
   | int i =>
    have hval : 0 <= i /\ i < 10 ^ 60 := of_decide_eq_true hval
    show ([dg i].length <= 1) /\ ∀ s ∈ [dg i],_
    refine ⟨Nat.le_refl _,fun s hs=>?_⟩
    rw [List.mem_singleton.mp hs]
    obtain ⟨k,rfl⟩ := Int.eq_ofNat_of_zero_le hval.1
    have ed : dg (k : Int) = (Nat.toDigits 10 k).map Char.toNat := by unfold dg; rw [PySem.W.KIN.signs_num]
    have hdl : (dg (k : Int)).length <= 60 := by rw [ed,List.length_map]; exact kqa (by omega)
    exact ⟨fun y hy=>pq8 (pq9 (i := (k : Int)) (by omega) y hy),by omega⟩
  | word n =>
   cases x with
   | int i=>cases hval
   | lst ls=>cases hval
   | txt l =>
    show ([[] ++ txD (st l) ++ []].length <= 1) /\ ∀ s ∈ [[] ++ txD (st l) ++ []],_
    refine ⟨Nat.le_refl _,fun s hs=>?_⟩
    rw [List.mem_singleton.mp hs,List.nil_append,List.append_nil,iq0]
    exact ⟨hb.1,by have := hb.2; omega⟩
  | gap n =>
   cases x with
   | int i=>cases hval
   | lst ls=>cases hval
   | txt l =>
    show ([[] ++ txD (st l) ++ []].length <= 1) /\ ∀ s ∈ [[] ++ txD (st l) ++ []],_
    refine ⟨Nat.le_refl _,fun s hs=>?_⟩
    rw [List.mem_singleton.mp hs,List.nil_append,List.append_nil,iq0]
    exact ⟨hb.1,by have := hb.2; omega⟩
  | part hx1 n tl =>
   cases x with
   | int i=>cases hval
   | lst ls=>cases hval
   | txt l =>
    show ([hx1 ++ txD (st l) ++ tl].length <= 1) /\ ∀ s ∈ [hx1 ++ txD (st l) ++ tl],_
    refine ⟨Nat.le_refl _,fun s hs=>?_⟩
    rw [List.mem_singleton.mp hs,iq0]
    refine ⟨fun y hy=>?_,?_⟩
    ·rcases List.mem_append.mp hy with z | z
     ·rcases List.mem_append.mp z with z | z
      ·exact oc.2.2.1 y z
      ·exact hb.1 y z
     ·exact oc.2.2.2.1 y z
    ·rw [List.length_append,List.length_append]
     have := hb.2; have := oc.1; have := oc.2.1
     omega
theorem lq6 {L M : Nat} {vs : List (List Nat × PyData)} (hL : 100 <= L) (hv : ∀ p ∈ vs,∃ x,p.2 = vlD x /\ VlB L M x) : ∀ {cs : List Pc} {a : List (List Nat)},(∀ c ∈ cs,PcOk c) -> fillF cs vs = .ok a -> a.length <= cs.length + (cs.filter Pc.isRest).length * M /\ ∀ s ∈ a,(∀ x ∈ s,isSg x = true) /\ s.length <= L + 200
 | [],a,_,h=>by
  have h : (Except.ok [] : Except (List Nat) (List (List Nat))) = .ok a := h
  cases h
  exact ⟨Nat.zero_le _,fun s hs=>by cases hs⟩
 | c :: cs,a,ok,h=>by
  unfold fillF at h
  cases h1 : fillS c vs with
  | error n=>rw [h1] at h; cases h
  | ok b =>
   rw [h1] at h
   cases h2 : fillF cs vs with
   | error n=>rw [h2] at h; cases h
   | ok d =>
    rw [h2] at h
    dsimp only at h
    cases h
    obtain ⟨p1,p2⟩ := pqo (ok c (List.mem_cons_self ..)) hL hv h1
    obtain ⟨q1,q2⟩ := lq6 hL hv (fun z hz=>ok z (List.mem_cons_of_mem _ hz)) h2
    refine ⟨?_,fun s hs=>?_⟩
    ·rw [List.length_append,List.length_cons]
     cases hr : c.isRest with
     | true =>
      rw [hr,if_pos rfl] at p1
      rw [List.filter_cons_of_pos hr,List.length_cons,Nat.succ_mul]
      omega
     | false =>
      rw [hr,if_neg (by decide)] at p1
      rw [List.filter_cons_of_neg (by rw [hr]; decide)]
      omega
    ·rcases List.mem_append.mp hs with z | z
     ·exact p2 s z
     ·exact q2 s z
theorem oqk {r : Pt × Pt} {w u : Wy} {L : Nat} (ok : RlOk r) (h1 : (r.2.1.filter Pc.isRest).length <= 1) (hL : 100 <= L) (hw : ∀ s ∈ w.2.1,(∀ c ∈ s,isSg c = true) /\ s.length <= L) (h : ledR r w = some u) :
  u.2.1.length <= r.2.1.length + w.2.1.length /\ ∀ s ∈ u.2.1,(∀ c ∈ s,isSg c = true) /\ s.length <= L + 200 := by
 unfold ledR at h
 split at h
 ·cases hf : fillM r.2.1 (keptV r.1.1 r.2.1 w.2.1) with
  | error n=>rw [hf] at h; cases h
  | ok ss =>
   rw [hf] at h
   cases h
   have hF : fillF r.2.1 (keptV r.1.1 r.2.1 w.2.1) = .ok ss := by
    unfold fillM at hf
    cases h2 : fillF r.2.1 (keptV r.1.1 r.2.1 w.2.1) with
    | error n=>rw [h2] at hf; cases hf
    | ok a =>
     rw [h2] at hf
     dsimp only at hf
     split at hf
     ·cases hf
     ·cases hf; rfl
   obtain ⟨q1,q2⟩ := lq6 (M := w.2.1.length) hL (fun p hp=>by
    obtain ⟨q,hq,rfl⟩ := List.mem_map.mp (List.mem_filter.mp hp).1
    exact ⟨q.2,rfl,lq0 hw (Nat.le_refl _) q hq⟩) ok.2.2.2 hF
   refine ⟨?_,q2⟩
   have : (r.2.1.filter Pc.isRest).length * w.2.1.length <= 1 * w.2.1.length := Nat.mul_le_mul_right _ h1
   show ss.length <= _
   omega
 ·cases h
theorem nq3 {rs : List (Pt × Pt)} {w u : Wy} (h : ledM rs w = some u) : ∃ r ∈ rs,ledR r w = some u := by
 unfold ledM at h
 obtain ⟨r,hr,h1⟩ := List.exists_of_findSome?_eq_some h
 exact ⟨r,hr,h1⟩
theorem PcT.erase {H : Hp} : ∀ {cs : List Pc} {xs : List V} (n : Nat),PcT H cs xs -> PcT H (cs.eraseIdx n) (xs.eraseIdx n)
 | _,_,_,.nil=>.nil
 | _,_,0,.cons _ r=>r
 | _,_,n + 1,.cons h r=>.cons h (PcT.erase n r)
theorem oqI {j n : Nat} (h : j < n) : seqIndex? (j : Int) n = some j := by
 unfold seqIndex?
 simp
 omega
end Wm
namespace Wm
theorem sqP {α : Type} {a : α} : ∀ {l : List α},l.Nodup -> (∀ x ∈ l,x = a) -> l.length <= 1
 | [],_,_=>Nat.zero_le _
 | [_],_,_=>Nat.le_refl _
 | x :: y :: _,nd,h=>by
  have h1 := h x (by simp)
  have h2 := h y (by simp)
  rw [h1,h2] at nd
  exact absurd (List.mem_cons_self ..) (List.nodup_cons.mp nd).1
end Wm
namespace L2
open PySem
end L2
namespace Wm
def Kin (c d : Pc) : Prop := c.isStep = false /\ d.isStep = false /\ d.name = c.name /\ ((c.isPart = true /\ d.isPart = true) \/ d = c)
def GoK (cs : List Pc) (d : Pc) : Prop := d.isStep = true \/ ∃ c ∈ cs,Kin c d
end Wm
namespace Wm
open PySem L2
def btM (c : Pc) (ss : List (List Nat)) : Vl := match c with
 | .rest _=>.lst ss
 | .part h _ t=>.txt (amid h t (ss.headD []))
 | _=>.txt (ss.headD [])
def atT (cs : List Pc) (ss : List (List Nat)) (n : List Nat) (x : Vl) : Prop := ∃ (i : Nat) (c : Pc),cs[i]? = some c /\ c.isStep = false /\ c.name = n /\ x = btM c (ss.drop i)
theorem lqL : ∀ {cs : List Pc} {i j : Nat} {c d : Pc},(gapsM cs).Nodup -> cs[i]? = some c -> cs[j]? = some d -> c.isStep = false -> d.isStep = false -> c.name = d.name -> i = j
 | [],i,j,c,d,_,h,_,_,_,_=>by simp at h
 | a :: cs,0,0,_,_,_,_,_,_,_,_=>rfl
 | a :: cs,0,j + 1,c,d,nd,h1,h2,g1,g2,e=>by
  cases h1
  have hm : d.name ∈ gapsM cs := List.mem_map.mpr ⟨d,List.mem_filter.mpr ⟨List.mem_of_getElem? (by simpa using h2),by rw [g2]; rfl⟩,rfl⟩
  have nd : (a.name :: gapsM cs).Nodup := by
   unfold gapsM at nd ⊢
   rw [List.filter_cons_of_pos (by rw [g1]; rfl)] at nd
   exact nd
  exact absurd (e ▸ hm) (List.nodup_cons.mp nd).1
 | a :: cs,i + 1,0,c,d,nd,h1,h2,g1,g2,e=>by
  cases h2
  have hm : c.name ∈ gapsM cs := List.mem_map.mpr ⟨c,List.mem_filter.mpr ⟨List.mem_of_getElem? (by simpa using h1),by rw [g1]; rfl⟩,rfl⟩
  have nd : (a.name :: gapsM cs).Nodup := by
   unfold gapsM at nd ⊢
   rw [List.filter_cons_of_pos (by rw [g2]; rfl)] at nd
   exact nd
  exact absurd (e ▸ hm) (List.nodup_cons.mp nd).1
 | a :: cs,i + 1,j + 1,c,d,nd,h1,h2,g1,g2,e=>by
  have nd : (gapsM cs).Nodup := nd.sublist (((List.sublist_cons_self a cs).filter _).map _)
  have := lqL (i := i) (j := j) nd (by simpa using h1) (by simpa using h2) g1 g2 e
  omega
theorem oqG {cs : List Pc} {ss : List (List Nat)} {n : List Nat} {x y : Vl} (nd : (gapsM cs).Nodup) (h1 : atT cs ss n x) (h2 : atT cs ss n y) : x = y := by
 obtain ⟨i,c,a1,a2,a3,rfl⟩ := h1
 obtain ⟨j,d,b1,b2,b3,rfl⟩ := h2
 have := lqL nd a1 b1 a2 b2 (a3.trans b3.symm)
 subst this
 rw [a1] at b1
 cases b1
 rfl
def goS (x : Vl) (d : Pc) : List (List Nat) := match d with
 | .step w=>[w]
 | .part h _ t=>match x with
  | .txt l=>[h ++ l ++ t]
  | _=>[]
 | .rest _=>match x with
  | .lst ls=>ls
  | _=>[]
 | _=>match x with
  | .txt l=>[l]
  | _=>[]
theorem jq0 : ∀ {cs : List Pc} {ss : List (List Nat)} {i : Nat} {c : Pc},cs[i]? = some c -> c.isStep = false -> (c.name,bvM c (ss.drop i)) ∈ boundM cs ss
 | [],_,i,c,h,_=>by simp at h
 | a :: cs,ss,0,c,h,hs=>by
  cases h
  show _ ∈ (if a.isStep then [] else [(a.name,bvM a ss)]) ++ boundM cs (ss.drop 1)
  rw [hs]
  exact List.mem_append_left _ (List.mem_singleton.mpr rfl)
 | a :: cs,ss,i + 1,c,h,hs=>by
  show _ ∈ (if a.isStep then [] else [(a.name,bvM a ss)]) ++ boundM cs (ss.drop 1)
  refine List.mem_append_right _ ?_
  have := jq0 (ss := ss.drop 1) (i := i) (c := c) (by simpa using h) hs
  rw [List.drop_drop] at this
  rw [Nat.add_comm i 1]
  exact this
theorem nq0 {cs : List Pc} {cl r e : Bool} {ss : List (List Nat)} (h : fitsP cs cl r ss e = true) {i : Nat} {c : Pc} (hc : cs[i]? = some c) : ∃ s rest,ss.drop i = s :: rest /\ fitsM c s = true := by
 obtain ⟨ms,hms,_,_,hf⟩ := kqo.mp h
 have hle := (iqo h).2.2.2.1
 have hi := (List.getElem?_eq_some_iff.mp hc).1
 have hil : i < ss.length := by omega
 have hs : ss[i]? = some ss[i] := List.getElem?_eq_getElem hil
 have hm : ms[i]? = some c := by
  rcases (mqU hms).2 i hil with ⟨_,q⟩ | ⟨q,_⟩
  ·rw [q]; exact hc
  ·omega
 exact ⟨ss[i],ss.drop (i + 1),List.drop_eq_getElem_cons hil,hf i c _ hm hs⟩
theorem mqC {cs ds : List Pc} {ss : List (List Nat)} (nd : (gapsM cs).Nodup) {i : Nat} {c : Pc} (hc : cs[i]? = some c) (hs : c.isStep = false) (hd : c.name ∈ gapsM ds) : named (keptV cs ds ss) c.name = [vlD (bvM c (ss.drop i))] := by
 refine kqx ?_ ?_
 ·unfold keptV
  have : ((boundM cs ss).map fun p=>(p.1,vlD p.2)).map (·.1) = gapsM cs := by
   rw [List.map_map]
   exact fqp cs ss
  have nd2 : (((boundM cs ss).map fun p=>(p.1,vlD p.2)).map (·.1)).Nodup := by rw [this]; exact nd
  exact nd2.sublist ((List.filter_sublist).map _)
 ·exact List.mem_filter.mpr ⟨List.mem_map.mpr ⟨_,jq0 hc hs,rfl⟩,decide_eq_true hd⟩
theorem oqQ {cs ds : List Pc} {cl r e : Bool} {ss : List (List Nat)} (nd : (gapsM cs).Nodup) (hf : fitsP cs cl r ss e = true) (hg : ∀ s ∈ ss,SgT s) {d : Pc} (od : PcOk d) (hd : d ∈ ds) (hk : GoK cs d) {x : Vl} (hx : d.isStep = false -> atT cs ss d.name x) :
  ((goS x d).any isDot = false /\ fillS d (keptV cs ds ss) = .ok (goS x d)) \/ ((goS x d).any isDot = true /\ ∃ n,fillS d (keptV cs ds ss) = .error n) := by
 rcases hk with hst | ⟨c,hcm,k1,k2,k3,k4⟩
 ·cases d with
  | step w=>exact .inl ⟨by show (isDot w || false) = false; rw [od.2.2.2]; rfl,rfl⟩
  | _=>cases hst
 obtain ⟨i,hi⟩ := List.mem_iff_getElem?.mp hcm
 obtain ⟨s,rest,hdr,hfs⟩ := nq0 hf hi
 have hsg : SgT s := hg s (List.mem_of_mem_drop (i := i) (by rw [hdr]; exact List.mem_cons_self ..))
 have hdn : d.name ∈ gapsM ds := List.mem_map.mpr ⟨d,List.mem_filter.mpr ⟨hd,by rw [k2]; rfl⟩,rfl⟩
 have hnm : named (keptV cs ds ss) d.name = [vlD (bvM c (ss.drop i))] := by rw [k3]; exact mqC nd hi k1 (k3 ▸ hdn)
 have ex : x = btM c (ss.drop i) := oqG nd (hx k2) ⟨i,c,hi,k1,k3.symm,rfl⟩
 rw [fqW k2,hnm]
 dsimp only
 rw [hdr] at ex ⊢
 have dots := (iqo hf).2.2.2.2
 have same : ∀ {c : Pc},c.isStep = false -> c.isRest = false -> c.isPart = false -> fitsM c s = true -> goS (btM c (s :: rest)) c = [s] := fun {c} a1 a2 a3 _=>by
  cases c with
  | step _=>cases a1
  | part _ _ _=>cases a3
  | rest _=>cases a2
  | num _=>rfl
  | word _=>rfl
  | gap _=>rfl
 rcases k4 with ⟨p1,p2⟩ | rfl
 ·cases c with
  | part h n t =>
   cases d with
   | part h' n' t' =>
    have hpb : partB h t s = true := (Bool.and_eq_true_iff.mp hfs).2
    have hne := (iql hpb).2
    have hv : ftx (st (amid h t s)) = true := lqH ⟨hne,fun y hy=>hsg.2 y (fqr y hy)⟩
    have hxx : x = .txt (amid h t s) := ex
    subst hxx
    have iv : isValD (.part h' n' t') (vlD (bvM (.part h n t) (s :: rest))) = !isDot (h' ++ amid h t s ++ t') := by
     show (ftx (st (amid h t s)) && !isDot (h' ++ txD (st (amid h t s)) ++ t')) = _
     rw [hv,iq0,Bool.true_and]
    rw [iv]
    have gs : goS (.txt (amid h t s)) (.part h' n' t') = [h' ++ amid h t s ++ t'] := rfl
    rw [gs]
    cases hdt : isDot (h' ++ amid h t s ++ t') with
    | true=>exact .inr ⟨by show (isDot _ || false) = true; rw [hdt]; rfl,_,if_neg (by decide)⟩
    | false =>
     refine .inl ⟨by show (isDot _ || false) = false; rw [hdt]; rfl,?_⟩
     rw [if_pos (by decide)]
     show Except.ok [h' ++ txD (st (amid h t s)) ++ t'] = _
     rw [iq0]
   | _=>cases p2
  | _=>cases p1
 ·cases hr : d.isRest with
  | true =>
   cases d with
   | rest n =>
    have hall : ∀ z ∈ s :: rest,SgT z /\ isDot z = false := fun z hz=>by
     have : z ∈ ss := List.mem_of_mem_drop (i := i) (by rw [hdr]; exact hz)
     exact ⟨hg z this,dots z this⟩
    obtain ⟨v1,v2⟩ := nqx (n := n) (ss := s :: rest) (by simp) hall
    have hxx : x = .lst (s :: rest) := ex
    subst hxx
    refine .inl ⟨?_,?_⟩
    ·show (s :: rest).any isDot = false
     rw [List.any_eq_false]
     exact fun z hz=>by rw [(hall z hz).2]; decide
    ·rw [if_pos v1,v2]; rfl
   | _=>cases hr
  | false =>
   obtain ⟨v1,v2⟩ := pqL (r := rest) k1 hr hfs hsg
   cases hp : d.isPart with
   | false =>
    have := same k1 hr hp hfs
    rw [ex,this]
    refine .inl ⟨?_,?_⟩
    ·show (isDot s || false) = false
     rw [mqe hfs]; rfl
    ·rw [if_pos v1,v2]
   | true =>
    cases d with
    | part h n t =>
     have hpb : partB h t s = true := (Bool.and_eq_true_iff.mp hfs).2
     have hxx : x = .txt (amid h t s) := ex
     subst hxx
     have gs : goS (.txt (amid h t s)) (.part h n t) = [s] := by
      show [h ++ amid h t s ++ t] = [s]
      rw [(iql hpb).1]
     rw [gs]
     refine .inl ⟨?_,?_⟩
     ·show (isDot s || false) = false
      rw [mqe hfs]; rfl
     ·rw [if_pos v1,v2]
    | _=>cases hp
theorem goF {cs ds : List Pc} {cl r e : Bool} {ss : List (List Nat)} (nd : (gapsM cs).Nodup) (hf : fitsP cs cl r ss e = true) (hg : ∀ s ∈ ss,SgT s) {f : Pc -> Vl} : ∀ {zs : List Pc},(∀ d ∈ zs,PcOk d /\ d ∈ ds /\ GoK cs d /\ (d.isStep = false -> atT cs ss d.name (f d))) ->
  ((zs.flatMap fun d=>goS (f d) d).any isDot = false /\ fillF zs (keptV cs ds ss) = .ok (zs.flatMap fun d=>goS (f d) d)) \/ ((zs.flatMap fun d=>goS (f d) d).any isDot = true /\ ∃ n,fillF zs (keptV cs ds ss) = .error n)
 | [],_=>.inl ⟨rfl,rfl⟩
 | d :: zs,h=>by
  obtain ⟨o1,o2,o3,o4⟩ := h d (List.mem_cons_self ..)
  have ih := goF nd hf hg (fun z hz=>h z (List.mem_cons_of_mem _ hz))
  rw [List.flatMap_cons,List.any_append]
  unfold fillF
  rcases oqQ nd hf hg o1 o2 o3 o4 with ⟨a1,a2⟩ | ⟨a1,n,a2⟩
  ·rw [a1,a2]
   dsimp only
   rcases ih with ⟨b1,b2⟩ | ⟨b1,n,b2⟩
   ·rw [b1,b2]; exact .inl ⟨rfl,rfl⟩
   ·rw [b1,b2]; exact .inr ⟨rfl,n,rfl⟩
  ·rw [a1,a2]
   exact .inr ⟨rfl,n,rfl⟩
def goM (r : Pt × Pt) (w : Wy) (f : Pc -> Vl) : Option Wy := if fitsP r.1.1 r.1.2 w.1 w.2.1 w.2.2 = true then (if (r.2.1.flatMap fun d=>goS (f d) d).any isDot = true then none else some (true,r.2.1.flatMap (fun d=>goS (f d) d),r.2.2)) else none
theorem rq8 {r : Pt × Pt} {w : Wy} {f : Pc -> Vl} (nd : (gapsM r.1.1).Nodup) (ok : ∀ c ∈ r.2.1,PcOk c) (gk : ∀ d ∈ r.2.1,GoK r.1.1 d) (hg : ∀ s ∈ w.2.1,SgT s) (hfv : fitsP r.1.1 r.1.2 w.1 w.2.1 w.2.2 = true -> ∀ d ∈ r.2.1,d.isStep = false -> atT r.1.1 w.2.1 d.name (f d)) : goM r w f = ledR r w := by
 unfold goM ledR
 cases hf : fitsP r.1.1 r.1.2 w.1 w.2.1 w.2.2 with
 | false=>rfl
 | true =>
  rw [if_pos rfl,if_pos rfl]
  have ho : otherM r.2.1 (keptV r.1.1 r.2.1 w.2.1) = none := iqW fun z hz=>of_decide_eq_true (List.mem_filter.mp hz).2
  rcases goF (ds := r.2.1) nd hf hg (zs := r.2.1) (fun d hd=>⟨ok d hd,hd,gk d hd,hfv hf d hd⟩) with ⟨b1,b2⟩ | ⟨b1,n,b2⟩
  ·rw [if_neg (by rw [b1]; decide)]
   unfold fillM
   rw [b2,ho]
  ·rw [if_pos b1]
   unfold fillM
   rw [b2]
theorem pqD {c : Pc} {vs : List (List Nat × PyData)} {a : List (List Nat)} (oc : PcOk c) (h : fillS c vs = .ok a) : ∀ s ∈ a,s ≠ [] := by
 cases hst : c.isStep with
 | true =>
  cases c with
  | step w =>
   have h : Except.ok [w] = (Except.ok a : Except (List Nat) (List (List Nat))) := h
   cases h
   intro s hs
   rw [List.mem_singleton.mp hs]
   exact List.length_pos_iff.mp oc.1
  | _=>cases hst
 | false =>
  rw [fqW hst] at h
  obtain ⟨d,hval,rfl⟩ : ∃ d,isValD c d = true /\ a = stpsD c d := by
   split at h
   ·rename_i d hn
    split at h
    ·rename_i hv'
     cases h
     exact ⟨d,hv',rfl⟩
    ·cases h
   ·cases h
  have tx : ∀ {d : PyData},ftx d = true -> txD d ≠ [] := fun {d} hf=>by
   cases d with
   | str x =>
    have hf : (x.cps.toList.all isSg && decide (0 < x.length)) = true := hf
    rw [Bool.and_eq_true,decide_eq_true_eq] at hf
    intro z
    have z : x.cps.toList = [] := z
    have : x.length = 0 := by show x.cps.size = 0; rw [<- Array.length_toList,z]; rfl
    omega
   | _=>cases hf
  intro s hs
  cases c with
  | step w=>cases hst
  | rest n =>
   cases d with
   | list ds =>
    have hval : (decide (0 < ds.length) && ds.all canD) = true := hval
    rw [Bool.and_eq_true,List.all_eq_true] at hval
    obtain ⟨x,hx,rfl⟩ := List.mem_map.mp (show s ∈ ds.map txD from hs)
    have hc := hval.2 x hx
    cases x with
    | str y =>
     have hc : (y.cps.toList.all isSg && decide (0 < y.length) && !isDot y.cps.toList) = true := hc
     rw [Bool.and_eq_true] at hc
     exact tx (d := .str y) hc.1
    | _=>cases hc
   | _=>cases hval
  | num n =>
   cases d with
   | int i =>
    have hval : 0 <= i /\ i < 10 ^ 60 := of_decide_eq_true hval
    have hs : s ∈ [dg i] := hs
    rw [List.mem_singleton.mp hs]
    obtain ⟨k,rfl⟩ := Int.eq_ofNat_of_zero_le hval.1
    have ed : dg (k : Int) = (Nat.toDigits 10 k).map Char.toNat := by unfold dg; rw [PySem.W.KIN.signs_num]
    rw [ed]
    exact (gqC k).2.1
   | _=>cases hval
  | word n =>
   cases d with
   | str y =>
    have hs : s ∈ [[] ++ y.cps.toList ++ []] := hs
    rw [List.mem_singleton.mp hs,List.nil_append,List.append_nil]
    have hval : wordB y.cps.toList = true := hval
    unfold wordB at hval
    simp only [Bool.and_eq_true,decide_eq_true_eq] at hval
    exact List.length_pos_iff.mp hval.1.1
   | _=>cases hval
  | gap n =>
   have hval : (ftx d && !isDot (txD d)) = true := hval
   rw [Bool.and_eq_true] at hval
   have hs : s ∈ [[] ++ txD d ++ []] := hs
   rw [List.mem_singleton.mp hs,List.nil_append,List.append_nil]
   exact tx hval.1
  | part h0 n t0 =>
   have hval : (ftx d && !isDot (h0 ++ txD d ++ t0)) = true := hval
   rw [Bool.and_eq_true] at hval
   have hs : s ∈ [h0 ++ txD d ++ t0] := hs
   rw [List.mem_singleton.mp hs]
   intro z
   exact tx hval.1 (List.append_eq_nil_iff.mp (List.append_eq_nil_iff.mp z).1).2
theorem mqa {vs : List (List Nat × PyData)} : ∀ {cs : List Pc} {a : List (List Nat)},(∀ c ∈ cs,PcOk c) -> fillF cs vs = .ok a -> ∀ s ∈ a,s ≠ []
 | [],a,_,h=>by
  have h : (Except.ok [] : Except (List Nat) (List (List Nat))) = .ok a := h
  cases h
  exact fun s hs=>by cases hs
 | c :: cs,a,ok,h=>by
  unfold fillF at h
  cases h1 : fillS c vs with
  | error n=>rw [h1] at h; cases h
  | ok b =>
   rw [h1] at h
   cases h2 : fillF cs vs with
   | error n=>rw [h2] at h; cases h
   | ok d =>
    rw [h2] at h
    dsimp only at h
    cases h
    intro s hs
    rcases List.mem_append.mp hs with z | z
    ·exact pqD (ok c (List.mem_cons_self ..)) h1 s z
    ·exact mqa (fun z hz=>ok z (List.mem_cons_of_mem _ hz)) h2 s z
theorem sq7 {r : Pt × Pt} {w u : Wy} (ok : ∀ c ∈ r.2.1,PcOk c) (h : ledR r w = some u) : ∀ s ∈ u.2.1,s ≠ [] := by
 unfold ledR at h
 split at h
 ·cases hf : fillM r.2.1 (keptV r.1.1 r.2.1 w.2.1) with
  | error n=>rw [hf] at h; cases h
  | ok ss =>
   rw [hf] at h
   cases h
   unfold fillM at hf
   cases h2 : fillF r.2.1 (keptV r.1.1 r.2.1 w.2.1) with
   | error n=>rw [h2] at hf; cases hf
   | ok a =>
    rw [h2] at hf
    dsimp only at hf
    split at hf
    ·cases hf
    ·cases hf
     exact mqa ok h2
 ·cases h
def ptD (p : Pt) : PyData := .tuple [.tuple (p.1.map pcD),.bool p.2]
def rlD (r : Pt × Pt) : PyData := .tuple [ptD r.1,ptD r.2]
theorem PtAt.is {H : Hp} {cs : List Pc} {e : Bool} {p : Addr} (h : PtAt H cs e p) : Is H (ptD (cs,e)) (.ref p) := by
 obtain ⟨q,xs,h1,h2,h3⟩ := h
 exact .tup h1 (.cons (.tup h2 h3.isT.is) (.cons (.bl _) .nil))
theorem RlAt.is {H : Hp} {r : Pt × Pt} {v : V} (h : RlAt H r v) : Is H (rlD r) v := by
 obtain ⟨p,ps,pg,rfl,h1,h2,h3⟩ := h
 exact .tup h1 (.cons h2.is (.cons h3.is .nil))
theorem sqV (c : Pc) : PyData.eqv (pcD c) (pcD c) = true := by
 have eq : ∀ s : Str,PyData.eqv (.str s) (.str s) = true := fun s=>by simp [PyData.eqv]
 have two : ∀ (k : Str) (l : List Nat),PyData.eqv (.tuple [.str k,st l]) (.tuple [.str k,st l]) = true := fun k l=>hqM fun d hd=>by
  simp only [List.not_mem_nil,List.mem_cons,or_false] at hd
  rcases hd with rfl | rfl
  ·exact eq _
  ·exact lq3 l
 cases c with
 | part h n t =>
  refine hqM fun d hd=>?_
  simp only [List.not_mem_nil,List.mem_cons,or_false] at hd
  rcases hd with rfl | rfl | rfl | rfl
  ·exact eq _
  ·exact lq3 _
  ·exact lq3 _
  ·exact lq3 _
 | step s=>exact two _ s
 | num n=>exact two _ n
 | word n=>exact two _ n
 | gap n=>exact two _ n
 | rest n=>exact two _ n
theorem qqb (p : Pt) : PyData.eqv (ptD p) (ptD p) = true := hqM fun d hd=>by
 simp only [List.not_mem_nil,List.mem_cons,or_false] at hd
 rcases hd with rfl | rfl
 ·exact hqM fun d hd=>by obtain ⟨c,_,rfl⟩ := List.mem_map.mp hd; exact sqV c
 ·exact oq6 _
theorem qqf (r : Pt × Pt) : PyData.eqv (rlD r) (rlD r) = true := hqM fun d hd=>by
 simp only [List.not_mem_nil,List.mem_cons,or_false] at hd
 rcases hd with rfl | rfl
 ·exact qqb _
 ·exact qqb _
theorem pq3 {p : Pt} (h : ∀ c ∈ p.1,PcSg c) : LayAt 3 (ptD p) := LayAt.tup (n := 2) fun d hd=>by
 simp only [List.not_mem_nil,List.mem_cons,or_false] at hd
 rcases hd with rfl | rfl
 ·exact oqR h
 ·exact LayAt.bool.le (by decide)
theorem rq5 {r : Pt × Pt} (h1 : ∀ c ∈ r.1.1,PcSg c) (h2 : ∀ c ∈ r.2.1,PcSg c) : LayAt 4 (rlD r) := LayAt.tup (n := 3) fun d hd=>by
 simp only [List.not_mem_nil,List.mem_cons,or_false] at hd
 rcases hd with rfl | rfl
 ·exact pq3 h1
 ·exact pq3 h2
theorem tqq {cs ds : List Pc} (h1 : ∀ c ∈ cs,PcSg c) (ok : ∀ c ∈ ds,PcOk c) (gk : ∀ d ∈ ds,GoK cs d) : ∀ d ∈ ds,PcSg d := fun d hd=>jqv (ok d hd) fun x hx=>by
 rcases gk d hd with z | ⟨c,hc,kn⟩
 ·cases d with
  | step s=>exact absurd (show x ∈ ([] : List Nat) from hx) List.not_mem_nil
  | _=>cases z
 ·rw [kn.2.2.1] at hx
  exact (h1 c hc).2.2 x hx
theorem RlsAt.isAll {H : Hp} {rs : List (Pt × Pt)} {vs : List V} (h : RlsAt H rs vs) : IsAll H (rs.map rlD) vs := by
 obtain ⟨h1,h2⟩ := h
 induction vs generalizing rs with
 | nil =>
  cases rs with
  | nil=>exact .nil
  | cons r rs=>cases h1
 | cons v vs ih =>
  cases rs with
  | nil=>cases h1
  | cons r rs =>
   obtain ⟨r',hr',hv⟩ := h2 0 v rfl
   cases hr'
   exact .cons hv.is (ih (by simpa using h1) fun i x hx=>by
    obtain ⟨r'',a,b⟩ := h2 (i + 1) x (by simpa using hx)
    exact ⟨r'',by simpa using a,b⟩)
def RlGood (r : Pt × Pt) : Prop := RlOk r /\ PcsOk r.1.1 /\ (gapsM r.1.1).Nodup /\ (∀ d ∈ r.2.1,GoK r.1.1 d) /\ (r.2.1.filter Pc.isRest).length <= 1 /\ r.2.1.length <= 4
theorem RlGood.sg {r : Pt × Pt} (h : RlGood r) : LayAt 4 (rlD r) := rq5 (fun c hc=>(h.2.1.2 c hc).2) (tqq (fun c hc=>(h.2.1.2 c hc).2) h.1.2.2.2 h.2.2.2.1)
theorem RlsAt.take {H : Hp} {rs : List (Pt × Pt)} {vs : List V} (h : RlsAt H rs vs) (n : Nat) : RlsAt H (rs.take n) (vs.take n) :=
 ⟨by rw [List.length_take,List.length_take,h.1],fun i v hv=>by
  rw [List.getElem?_take] at hv
  split at hv
  ·obtain ⟨r,h1,h2⟩ := h.2 i v hv
   exact ⟨r,by rw [List.getElem?_take,if_pos (by assumption)]; exact h1,h2⟩
  ·cases hv⟩
theorem RlsAt.rev {H : Hp} {rs : List (Pt × Pt)} {vs : List V} (h : RlsAt H rs vs) : RlsAt H rs.reverse vs.reverse :=
 ⟨by rw [List.length_reverse,List.length_reverse,h.1],fun i v hv=>by
  have hi := (List.getElem?_eq_some_iff.mp hv).1
  rw [List.length_reverse] at hi
  rw [List.getElem?_reverse hi] at hv
  obtain ⟨r,h1,h2⟩ := h.2 _ v hv
  refine ⟨r,?_,h2⟩
  rw [List.getElem?_reverse (by rw [<- h.1]; exact hi),<- h.1]
  exact h1⟩
end Wm
namespace L2
open PySem PySem.Spec PyProof.Rows
section
variable {κ : Type} [DecidableEq κ]
def valV (kvs : List (κ × V)) (k : κ) : Option V := (kvs.find? fun kv=>decide (kv.1 = k)).map (·.2)
def putK (kvs : List (κ × V)) (k : κ) (v : V) : List (κ × V) :=
 if (kvs.any fun kv=>decide (kv.1 = k)) = true then kvs.map (fun kv=>if kv.1 = k then (kv.1,v) else kv) else kvs ++ [(k,v)]
theorem bqN {p : κ × V} {r : List (κ × V)} {k : κ} (e : p.1 = k) : valV (p :: r) k = some p.2 := by simp [valV,List.find?_cons,e]
theorem bqR {p : κ × V} {r : List (κ × V)} {k : κ} (e : ¬ p.1 = k) : valV (p :: r) k = valV r k := by simp [valV,List.find?_cons,e]
theorem hqr (k : κ) : ∀ kvs : List (κ × V),(kvs.any fun kv=>decide (kv.1 = k)) = (valV kvs k).isSome
 | [] => rfl
 | p :: r=>by
  rw [List.any_cons]
  by_cases e : p.1 = k
  ·simp only [bqN e,decide_eq_true e,Bool.true_or,Option.isSome_some]
  ·rw [bqR e,decide_eq_false e,Bool.false_or]; exact hqr k r
theorem lq2 (k j : κ) (y : V) : ∀ kvs : List (κ × V),valV (kvs.map fun kv=>if kv.1 = k then (kv.1,y) else kv) j = (valV kvs j).map fun x=>if j = k then y else x
 | [] => rfl
 | p :: r=>by
  have ih := lq2 k j y r
  rw [List.map_cons]
  by_cases h : p.1 = k
  ·rw [if_pos h]
   by_cases e : p.1 = j
   ·rw [bqN (p := (p.1,y)) e,bqN e,Option.map_some,if_pos (e.symm.trans h)]
   ·rw [bqR (p := (p.1,y)) e,bqR e,ih]
  ·rw [if_neg h]
   by_cases e : p.1 = j
   ·rw [bqN (p := p) e,bqN e,Option.map_some,if_neg (fun z=>h (e.trans z))]
   ·rw [bqR (p := p) e,bqR e,ih]
theorem kqI (k j : κ) (y : V) : ∀ kvs : List (κ × V),valV kvs k = none -> valV (kvs ++ [(k,y)]) j = if j = k then some y else valV kvs j
 | [],_=>by
  by_cases e : k = j
  ·rw [if_pos e.symm]; exact bqN (p := (k,y)) e
  ·rw [if_neg (fun z=>e z.symm)]; exact bqR (p := (k,y)) e
 | p :: r,hn=>by
  rw [List.cons_append]
  have hk : ¬ p.1 = k := fun z=>by rw [bqN z] at hn; cases hn
  rw [bqR hk] at hn
  have ih := kqI k j y r hn
  by_cases e : p.1 = j
  ·rw [bqN e,bqN e,if_neg (fun z=>hk (e.trans z))]
  ·rw [bqR e,bqR e,ih]
theorem oqO (kvs : List (κ × V)) (k j : κ) (y : V) : valV (putK kvs k y) j = if j = k then some y else valV kvs j := by
 unfold putK
 by_cases a : (kvs.any fun kv=>decide (kv.1 = k)) = true
 ·rw [if_pos a,lq2]
  rw [hqr] at a
  by_cases e : j = k
  ·obtain ⟨x,hx⟩ := Option.isSome_iff_exists.mp a
   rw [if_pos e,e,hx,Option.map_some,if_pos rfl]
  ·rw [if_neg e]
   cases valV kvs j with
   | none=>rfl
   | some x=>rw [Option.map_some,if_neg e]
 ·rw [if_neg a]
  refine kqI k j y kvs ?_
  rw [hqr] at a
  cases q : valV kvs k with
  | none=>rfl
  | some x=>rw [q] at a; exact (a rfl).elim
theorem fqn (kvs : List (κ × V)) (k : κ) (v : V) : (putK kvs k v).length <= kvs.length + 1 := by
 unfold putK
 split
 ·rw [List.length_map]; omega
 ·rw [List.length_append,List.length_cons,List.length_nil]; omega
theorem RelO.isSome_eq {o : Option V} {u : Option Value} (r : RelO o u) : o.isSome = u.isSome := by
 cases o with
 | none=>cases u with
  | none=>rfl
  | some _=>exact (show False from r).elim
 | some _=>cases u with
  | none=>exact (show False from r).elim
  | some _=>rfl
theorem KV.val {kvs : List (κ × V)} {vs : List (κ × Value)} (r : KV kvs vs) (k : κ) : RelO (valV kvs k) (valueAt vs k) := by
 unfold KV at r
 induction r with
 | nil=>exact True.intro
 | @cons p q ps qs h t ih =>
  obtain ⟨h1,h2⟩ := h
  by_cases e : p.1 = k
  ·have e' : q.1 = k := h1.symm.trans e
   have b : valueAt (q :: qs) k = some q.2 := by simp [valueAt,List.find?_cons,e']
   rw [bqN e,b]; exact h2
  ·have e' : ¬ q.1 = k := fun z=>e (h1.trans z)
   have b : valueAt (q :: qs) k = valueAt qs k := by simp [valueAt,List.find?_cons,e']
   rw [bqR e,b]; exact ih
theorem KV.any {kvs : List (κ × V)} {vs : List (κ × Value)} (r : KV kvs vs) (k : κ) : (kvs.any fun kv=>decide (kv.1 = k)) = vs.any fun kv=>decide (kv.1 = k) := by
 unfold KV at r
 induction r with
 | nil=>rfl
 | cons h t ih=>rw [List.any_cons,List.any_cons,ih,h.1]
theorem KV.repl {kvs : List (κ × V)} {vs : List (κ × Value)} (r : KV kvs vs) (k : κ) {y : V} {u : Value} (ry : RelV y u) :
  KV (kvs.map fun kv=>if kv.1 = k then (kv.1,y) else kv) (vs.map fun kv=>if kv.1 = k then (kv.1,u) else kv) := by
 unfold KV at r ⊢
 induction r with
 | nil=>exact .nil
 | @cons p q ps qs h t ih =>
  rw [List.map_cons,List.map_cons]
  refine .cons ?_ ih
  obtain ⟨h1,h2⟩ := h
  by_cases e : p.1 = k
  ·rw [if_pos e,if_pos (h1.symm.trans e)]; exact ⟨h1,ry⟩
  ·rw [if_neg e,if_neg (fun z=>e (h1.trans z))]; exact ⟨h1,h2⟩
theorem KV.put {kvs : List (κ × V)} {vs : List (κ × Value)} (r : KV kvs vs) (k : κ) {y : V} {u : Value} (ry : RelV y u) : KV (putK kvs k y) (stored vs k u) := by
 unfold putK stored
 rw [r.any k]
 by_cases e : (vs.any fun kv=>decide (kv.1 = k)) = true
 ·rw [if_pos e,if_pos e]; exact r.repl k ry
 ·rw [if_neg e,if_neg e]; exact Paired.snoc r ⟨rfl,ry⟩
theorem KV.length {kvs : List (κ × V)} {vs : List (κ × Value)} (r : KV kvs vs) : kvs.length = vs.length := Paired.length r
end
theorem qqW {P : Program} {w : World} {k : Key} {u : Value} (r : RelV (kV k) u) : (mixKind P w).is k u = true := by
 cases k with
 | inl i=>obtain ⟨t,e⟩ := (show ∃ t,u = Value.int i t from r); subst e; exact lqJ P w i t
 | inr x=>obtain ⟨t,e⟩ := (show ∃ t,u = Value.str x t from r); subst e; exact lqY P w x t
theorem kq3 {P : Program} {w : World} : ∀ {ks : List Key} {us : List Value},Vals (ks.map kV) us -> ItemsAre (mixKind P w) ks us
 | [],_,r=>by rw [List.map_nil] at r; cases r; exact .nil
 | k :: ks,_,r=>by
  rw [List.map_cons] at r
  cases r with
  | cons h t=>exact .cons (qqW h) (kq3 t)
abbrev KT (H : Hp) : List (List Key × V) -> List (List Key × Addr × Value) -> Prop := Paired fun p q=>p.1 = q.1 /\ H q.2.1 = some (.tup (p.1.map kV)) /\ RelV p.2 q.2.2
theorem KT.val {H : Hp} {kvs : List (List Key × V)} {xs : List (List Key × Addr × Value)} (r : KT H kvs xs) (k : List Key) : RelO (valV kvs k) ((atKey xs k).map (·.2)) := by
 induction r with
 | nil=>exact True.intro
 | @cons p q ps qs h t ih =>
  obtain ⟨h1,_,h2⟩ := h
  by_cases e : p.1 = k
  ·have e' : q.1 = k := h1.symm.trans e
   have b : atKey (q :: qs) k = some q.2 := by simp [atKey,List.find?_cons,e']
   rw [bqN e,b]; exact h2
  ·have e' : ¬ q.1 = k := fun z=>e (h1.trans z)
   have b : atKey (q :: qs) k = atKey qs k := by simp [atKey,List.find?_cons,e']
   rw [bqR e,b]; exact ih
theorem KT.repl {H : Hp} {kvs : List (List Key × V)} {xs : List (List Key × Addr × Value)} (r : KT H kvs xs) (k : List Key) {y : V} {u : Value} (ry : RelV y u) :
  KT H (kvs.map fun kv=>if kv.1 = k then (kv.1,y) else kv) (xs.map (putAt k u)) := by
 induction r with
 | nil=>exact .nil
 | @cons p q ps qs h t ih =>
  rw [List.map_cons,List.map_cons]
  refine .cons ?_ ih
  obtain ⟨h1,h2,h3⟩ := h
  unfold putAt
  by_cases e : p.1 = k
  ·rw [if_pos e,if_pos (h1.symm.trans e)]; exact ⟨h1,h2,ry⟩
  ·rw [if_neg e,if_neg (fun z=>e (h1.trans z))]; exact ⟨h1,h2,h3⟩
theorem KT.put {H : Hp} {kvs : List (List Key × V)} {xs : List (List Key × Addr × Value)} (r : KT H kvs xs) (k : List Key) {b : Addr} {y : V} {u : Value} (hb : H b = some (.tup (k.map kV))) (ry : RelV y u) :
  KT H (putK kvs k y) (storedH xs k b u) := by
 have e : (kvs.any fun kv=>decide (kv.1 = k)) = (atKey xs k).isSome := by
  rw [hqr,(r.val k).isSome_eq,Option.isSome_map]
 unfold putK storedH
 rw [e]
 by_cases q : (atKey xs k).isSome = true
 ·rw [if_pos q,if_pos q]; exact r.repl k ry
 ·rw [if_neg q,if_neg q]; exact Paired.snoc r ⟨rfl,hb,ry⟩
theorem KT.keeps {H H' : Hp} {kvs : List (List Key × V)} {xs : List (List Key × Addr × Value)} (r : KT H kvs xs) (ht : ∀ b ys,H b = some (.tup ys) -> H' b = some (.tup ys)) : KT H' kvs xs :=
 Paired.mapP r fun _ _ z=>⟨z.1,ht _ _ z.2.1,z.2.2⟩
section
variable {P : Program} {w : World} {H : Hp} {h : Heap} {a : Addr}
theorem rq6 {u : HO} (ok : HOk P w H h) (e : Rd H a u) : ObjOk P w H h a u := e.ok ok
theorem qqR {kvs : List (Key × V)} (ok : HOk P w H h) (e : Rd H a (.dK kvs)) : kvs.length <= sizeLine /\ (a == sysModules) = false /\ ∃ vs,KV kvs vs /\ h.DictOf (mixKind P w) a vs :=
 show ObjOk P w H h a (.dK kvs) from rq6 ok e
theorem tqy {kvs : List (Key × V)} (ok : HOk P w H h) (e : H a = some (.dK kvs)) : kvs.length <= sizeLine /\ (a == sysModules) = false /\ ∃ vs,KV kvs vs /\ h.DictOf (mixKind P w) a vs := qqR ok (.inl e)
theorem nqQ {ks : List Key} (ok : HOk P w H h) (e : H a = some (.tup (ks.map kV))) : (tupleKind (mixKind P w)).is h ks a := by
 obtain ⟨_,its,r,o,h1,h2,n,h3⟩ := (show ObjOk P w H h a (.tup (ks.map kV)) from ok a _ e)
 exact ⟨o,its.toArray,n,h1,h2,h3,by simpa using kq3 r⟩
theorem rqe {kvs : List (List Key × V)} (ok : HOk P w H h) (e : Rd H a (.dT kvs)) : kvs.length <= sizeLine /\ (a == sysModules) = false /\
  ∃ xs,KT H kvs xs /\ h.DictOfH (tupleKind (mixKind P w)) a xs := by
 obtain ⟨z,y,xs,r,o,es,ep,h1,h2,h3,h4,h5⟩ := (show ObjOk P w H h a (.dT kvs) from rq6 ok e)
 refine ⟨z,y,xs,r,o,es,ep,h1,h2,h3,h4,fun x hx=>?_,h5⟩
 have all : ∀ {l : List (List Key × V)} {m : List (List Key × Addr × Value)},KT H l m -> ∀ x ∈ m,(tupleKind (mixKind P w)).is h x.1 x.2.1 := by
  intro l m q
  induction q with
  | nil=>intro x hx; exact nomatch hx
  | @cons p q ps qs hq t ih =>
   intro x hx
   rcases List.mem_cons.mp hx with e | hx
   ·subst e
    exact nqQ ok (by rw [<- hq.1]; exact hq.2.1)
   ·exact ih x hx
 exact all r x hx
theorem tqG {kvs : List (List Key × V)} (ok : HOk P w H h) (e : H a = some (.dT kvs)) : kvs.length <= sizeLine /\ (a == sysModules) = false /\
  ∃ xs,KT H kvs xs /\ h.DictOfH (tupleKind (mixKind P w)) a xs := rqe ok (.inl e)
end
def DGet (H : Hp) (a : Addr) (y : V) (r : Option V) : Prop :=
 (∃ kvs k,Rd H a (.dK kvs) /\ y = kV k /\ r = valV kvs k) \/ ∃ kvs k b,Rd H a (.dT kvs) /\ y = .ref b /\ H b = some (.tup (k.map kV)) /\ r = valV kvs k
def DPut (H : Hp) (a : Addr) (y v : V) (H' : Hp) : Prop :=
 (∃ kvs k,H a = some (.dK kvs) /\ y = kV k /\ kvs.length < sizeLine /\ H' = upd H a (.dK (putK kvs k v))) \/
 ∃ kvs k b,H a = some (.dT kvs) /\ y = .ref b /\ H b = some (.tup (k.map kV)) /\ kvs.length < sizeLine /\ H' = upd H a (.dT (putK kvs k v))
theorem DGet.k {H : Hp} {a : Addr} {kvs : List (Key × V)} {k : Key} (e : H a = some (.dK kvs)) : DGet H a (kV k) (valV kvs k) := .inl ⟨kvs,k,.inl e,rfl,rfl⟩
theorem DPut.k {H : Hp} {a : Addr} {kvs : List (Key × V)} {k : Key} {v : V} (e : H a = some (.dK kvs)) (hl : kvs.length < sizeLine) : DPut H a (kV k) v (upd H a (.dK (putK kvs k v))) := .inl ⟨kvs,k,e,rfl,hl,rfl⟩
section
variable {X : Cx} {pins : List (Addr × Obj)} {σ : St} {H : Hp} {s : Shared} {a : Addr} {y v : V} {u r : Value} {o : Option V} {A : Around} {E : Value -> Shared -> Prop}
theorem Inv.big (I : Inv X pins σ H s) : sysModules < s.heap.objs.size := by
 have h : mainGlobals < s.heap.objs.size := (I.mod.glob.keeps I.bk).lt
 exact Nat.lt_trans (by decide) h
theorem oqe {Q : Value -> Shared -> Prop} (hu : A.units + 1 < cLine) (I : Inv X pins σ H s) (g : DGet H a y (some v)) (ry : RelV y u) (h : ∀ w' s',Inv X pins σ H s' -> RelV v w' -> Q w' s') :
  wpAny (model X.prog X.w) A (getItem (.ref a) u) Q E s := by
 rcases g with ⟨kvs,k,e,ey,l⟩ | ⟨kvs,k,b,e,ey,eb,l⟩
 ·subst ey
  obtain ⟨z,hd,vs,rel,dd⟩ := qqR I.hok e
  obtain ⟨w',hw,rw'⟩ := RelO.some_of (v := v) (o := valueAt vs k) (by rw [l]; exact rel.val k)
  exact wpAny_getItem_of (qqW ry) dd.mapOf hw (h w' _ (I.tok _) rw')
 ·subst ey
  cases (show u = Value.ref b from ry)
  obtain ⟨z,hd,xs,rel,dd⟩ := rqe I.hok e
  obtain ⟨w',hw,rw'⟩ := RelO.some_of (v := v) (o := (atKey xs k).map (·.2)) (by rw [l]; exact rel.val k)
  obtain ⟨p,hp,hp2⟩ := Option.map_eq_some_iff.mp hw
  refine wpAny_getItem_heap (tupleKind_room_in1 hu) (nqQ I.hok eb) dd hp ?_
  rw [hp2]
  exact h w' _ (I.tok _) rw'
theorem oqq {h' : Heap} {t' : Nat} {ob : HO} (I : Inv X pins σ H s) (mu : Mut (H a)) (hs : Heap.SameBut a s.heap h') (he : ∃ q,h'.get? a = some q) (new : ObjOk X.prog X.w (upd H a ob) h' a ob) :
  Inv X pins σ (upd H a ob) { s with heap := h',toks := t' } :=
 I.write (x := a) (e := a) mu (.inl rfl) (fun b q hb z=>(hs.2 b hb).trans z) he new
theorem rqZ {P : Program} {w : World} {H' : Hp} {h' : Heap} {kvs : List (Key × V)} {vs : List (Key × Value)} (z : kvs.length <= sizeLine) (hd : (a == sysModules) = false) (rel : KV kvs vs) (dd : h'.DictOf (mixKind P w) a vs) :
  ObjOk P w H' h' a (.dK kvs) := ⟨z,hd,vs,rel,dd⟩
theorem oqn {H' : Hp} {Q : Unit -> Shared -> Prop} (hu : A.units + 1 < cLine) (I : Inv X pins σ H s) (g : DPut H a y v H') (ry : RelV y u) (rv : RelV v r) (h : ∀ s',Inv X pins σ H' s' -> Q () s') :
  wpAny (model X.prog X.w) A (setItem (.ref a) u r) Q E s := by
 rcases g with ⟨kvs,k,e,ey,l,eH⟩ | ⟨kvs,k,b,e,ey,eb,l,eH⟩
 ·subst ey eH
  obtain ⟨z,hd,vs,rel,dd⟩ := tqy I.hok e
  have hz : vs.length <= sizeLine := by rw [<- rel.length]; exact z
  have hl : (putK kvs k v).length <= sizeLine := by have := fqn kvs k v; omega
  refine wpAny_setItem_pairs (hsz := hz) (qqW ry) dd fun h' dd' hs=>h _ ?_
  have he : ∃ q,h'.get? a = some q := let ⟨q,_,_,hq,_⟩ := dd'; ⟨q,hq⟩
  exact oqq I (by rw [e]; exact True.intro) hs he (rqZ hl hd (rel.put k rv) dd')
 ·subst ey eH
  cases (show u = Value.ref b from ry)
  obtain ⟨z,hd,xs,rel,dd⟩ := tqG I.hok e
  have hz : xs.length <= sizeLine := by rw [<- Paired.length rel]; exact z
  have hl : (putK kvs k v).length <= sizeLine := by have := fqn kvs k v; omega
  refine wpAny_setItem_heap (hsz := hz) (tupleKind_room_in1 hu) (nqQ I.hok eb) dd fun h' dd' hs=>h _ ?_
  obtain ⟨q,es,ep,hq,h2,h3,h4,_,h5⟩ := dd'
  refine oqq I (by rw [e]; exact True.intro) hs ⟨q,hq⟩ ⟨hl,hd,_,(rel.put k eb rv).keeps fun c ys ec=>?_,q,es,ep,hq,h2,h3,h4,h5⟩
  rw [aqo (sqg ec e (fun z=>nomatch z))]
  exact ec
end
section
variable {X : Cx} {pins : List (Addr × Obj)} {σ : St} {H : Hp} {s : Shared} {a : Addr} {kvs : List (Key × V)} {k : Key} {u : Value} {A : Around} {E : Value -> Shared -> Prop}
end
def NoSl (i : Expr) : Prop := ∀ ov iv,subscripted i false ov iv = operate [ov,iv] (getItem ov iv)
theorem qqF {prog : Program} {w : World} {A : Around} {E : Value -> Shared -> Prop} {s : Shared} {env : Env} {value slice : Expr} {pos : Pos} {T id : String} {Q : Value -> Shared -> Prop}
  (hl : typeLookup (.type T) "__getitem__" = pure (some (.builtin id))) (hs : NoSl slice)
  (h : wpAny (model prog w) A (eval value env) (fun o s₁=>wpAny (model prog w) A (eval slice env) (fun i s₂=>s₂.TypeIs o T /\ wpAny (model prog w) A (getItem o i) Q E s₂) E s₁) E s) :
  wpAny (model prog w) A (eval (.Subscript value slice pos) env) Q E s := by
 refine Subscript_ (wpAny_mono h (fun o s₁ h₁=>wpAny_mono h₁ (fun i s₂ h₂=>?_) fun _ _ x=>x) fun _ _ x=>x)
 obtain ⟨hT,h₂⟩ := h₂
 unfold subscriptTail
 refine wpAny_bind ?_
 rw [getitemInPython_of_ne hT.not_modules]
 refine wpAny_bind (wpAny_specialOf hT hl ?_)
 have fin : wpAny (model prog w) A (subscripted slice false o i) (fun r s₃=>wpAny (model prog w) A (letTemporaryGo value o r >>= fun _=>pure r) Q E s₃) E s₂ := by
  rw [hs o i]
  exact wpAny_operating (wpAny_mono h₂ (fun r s₃ h₃=>wpAny_bind (wpAny_letTemporaryGo (wpAny_pure h₃))) fun _ _ x=>x)
 first
  | exact wpAny_pure (wpAny_bind fin)
  | exact wpAny_bind (wpAny_pure (wpAny_bind fin))
  | exact wpAny_bind fin
theorem lqX {X : Cx} {pins : List (Addr × Obj)} {σ : St} {H : Hp} {s : Shared} {a : Addr} {y : V} {o : Option V} (I : Inv X pins σ H s) (g : DGet H a y o) : s.TypeIs (.ref a) "dict" := by
 rcases g with ⟨kvs,k,e,_,_⟩ | ⟨kvs,k,b,e,_,_,_⟩
 ·obtain ⟨_,_,vs,_,dd⟩ := qqR I.hok e
  exact dd.typeIs
 ·obtain ⟨_,_,xs,_,dd⟩ := rqe I.hok e
  exact dd.typeIs
def tDGet (td ty : TE) : TE := fun σ H Q=>td σ H fun x H1=>ty σ H1 fun y H2=>∃ a v,x = .ref a /\ DGet H2 a y (some v) /\ Q v H2
def sDPut (td ty tv : TE) : TS := fun D σ H=>tv σ H fun v H1=>td σ H1 fun x H2=>ty σ H2 fun y H3=>∃ a H4,x = .ref a /\ DPut H3 a y v H4 /\ D.nx σ H4
section
variable {X : Cx} {o i e value : Expr} {pos pos' tpos : Pos} {td ty tv : TE}
theorem lqA (hu : X.A.units + 1 < cLine) (ho : PE X o td) (hi : PE X i ty) (hs : NoSl i) : PE X (.Subscript o i pos) (tDGet td ty) := by
 intro pins s σ H Q I h
 refine qqF PySem.F.slot_dict_getitem.lookup hs (thn (ho pins s σ H _ I h) fun u s1 ⟨x,H1,I1,rx,q1⟩=>thn (hi pins s1 σ H1 _ I1 q1) fun iv s2 W' => ?_)
 obtain ⟨y,H2,I2,ry,a,v,ex,g,q2⟩ := W'
 subst ex
 obtain rfl : u = Value.ref a := rx
 exact ⟨lqX I2 g,oqe hu I2 g ry fun w' s3 I3 rw' => ⟨v,H2,I3,rw',q2⟩⟩
theorem lqo (hu : X.A.units + 1 < cLine) (ho : PE X o td) (hi : PE X i ty) (hv : PE X value tv) (hs : swapsWith value (some (.Subscript o i pos')) pos.line X.env = pure false) :
  PS X (.Assign [.Subscript o i pos'] value pos) (sDPut td ty tv) := by
 intro pins s σ H D I h
 refine wpAny_Assign_Subscript (thn (hv pins s σ H _ I h) fun r s1 ⟨v,H1,I1,rv,q1⟩=>thn (ho pins s1 σ H1 _ I1 q1) fun u s2 ⟨x,H2,I2,rx,q2⟩=>thn (hi pins s2 σ H2 _ I2 q2) fun iv s3 W' => ?_) hs
 obtain ⟨y,H3,I3,ry,a,H4,ex,g,q3⟩ := W'
 subst ex
 obtain rfl : u = Value.ref a := rx
 exact oqn hu I3 g ry rv fun s4 I4=>⟨σ,H4,I4,q3⟩
end
theorem pqq {P : Program} {w : World} {H : Hp} (h : Heap) (hb : sysModules < h.objs.size) : ObjOk P w H (h.push { cls := .type "dict", data := .dict #[] }) h.objs.size (.dK []) :=
 ⟨Nat.zero_le _,beq_eq_false_iff_ne.mpr (Ne.symm (Nat.ne_of_lt hb)),[],.nil,Heap.DictOf.new h⟩
def tDNewK : TE := fun _ H Q=>∀ p,H p = none -> Q (.ref p) (upd H p (.dK []))
section
variable {X : Cx} {pos : Pos}
theorem pqF : PE X (.Dict [] [] pos) tDNewK := fun pins s σ H Q I h =>
 wpAny_Dict_empty ⟨.ref s.heap.objs.size,_,I.laid (a := s.heap.objs.size) (o := .dK []) (t' := s.toks) (fun _ _ q=>Heap.get?_push_of_some _ q) (Nat.le_refl _) (pqq s.heap I.big),rfl,h _ (I.hok.fresh (Nat.le_refl _))⟩
end
structure M1 (X : Cx) (o : Expr) (m : Str) (apos : Pos) (e : Expr) (cpos : Pos) : Prop where
 base : attributeBase o m X.env (eval o X.env) = eval o X.env
 few : ((backTo cpos (starEach [e] X.env)).all (fun x=>!x.1) && (backToKw cpos (keywordEach [] X.env)).all (fun x=>x.1.isSome)
  && decide (([e] : List Expr).length + ([] : List Keyword).length + (if ([] : List Keyword).isEmpty then 0 else 1) < 30)) = true
 line : (apos.endLine == cpos.line) = true
 trees : backTo cpos (starEach [e] X.env) = [(false,eval e X.env)]
structure M2 (X : Cx) (o : Expr) (m : Str) (apos : Pos) (e f : Expr) (cpos : Pos) : Prop where
 base : attributeBase o m X.env (eval o X.env) = eval o X.env
 few : ((backTo cpos (starEach [e,f] X.env)).all (fun x=>!x.1) && (backToKw cpos (keywordEach [] X.env)).all (fun x=>x.1.isSome)
  && decide (([e,f] : List Expr).length + ([] : List Keyword).length + (if ([] : List Keyword).isEmpty then 0 else 1) < 30)) = true
 line : (apos.endLine == cpos.line) = true
 trees : backTo cpos (starEach [e,f] X.env) = [(false,eval e X.env),(false,eval f X.env)]
section
variable {X : Cx} {pins : List (Addr × Obj)} {σ : St} {H : Hp} {s : Shared} {a : Addr} {y d : V} {u r : Value} {o : Option V} {A : Around} {E : Value -> Shared -> Prop}
end
section
variable {X : Cx} {o e f : Expr} {apos cpos : Pos} {td ty tx : TE}
end
section
variable {X : Cx} {pins : List (Addr × Obj)} {σ : St} {H : Hp} {s : Shared} {a : Addr} {kvs : List (Key × V)} {A : Around} {E : Value -> Shared -> Prop}
end
section
variable {X : Cx} {pins : List (Addr × Obj)} {σ : St} {H : Hp} {s : Shared} {a : Addr} {y : V} {u : Value} {A : Around} {E : Value -> Shared -> Prop}
end
end L2
namespace L2
open PySem PyProof.Rows PySem.Spec
theorem Room.units1 {k : Nat} {A : Around} (r : Room k A) : A.units + 1 < cLine := by have := r.un; omega
section
variable {td ty tv : TE} {σ : St} {H : Hp} {Q : VK} {D : Ends}
theorem rqQ : (tDGet td ty σ H Q) = (td σ H fun x H1=>ty σ H1 fun y H2=>∃ a v,x = .ref a /\ DGet H2 a y (some v) /\ Q v H2) := rfl
theorem rqA : (sDPut td ty tv D σ H) = (tv σ H fun v H1=>td σ H1 fun x H2=>ty σ H2 fun y H3=>∃ a H4,x = .ref a /\ DPut H3 a y v H4 /\ D.nx σ H4) := rfl
theorem rqH : (tDNewK σ H Q) = (∀ p,H p = none -> Q (.ref p) (upd H p (.dK []))) := rfl
end
end L2
namespace Wm
open PySem L2
def top (i : Nat) : Stmt := PySem.Challenge.pw_waymark_k80_led_on_by_the_first.main.body.getD i (.Pass ⟨0,0,0,0⟩)
abbrev aqJ : Stmt := inClass (top 2) 0
abbrev dqF : Stmt := top 8
abbrev aqO : Stmt := top 14
abbrev eqQ : Stmt := top 18
abbrev eqS : Stmt := top 23
abbrev dqH : Stmt := top 24
abbrev dqN : Stmt := top 25
abbrev dqx : Stmt := top 26
abbrev cqL : Stmt := top 27
abbrev aq3 : Stmt := top 49
abbrev bqL : Stmt := top 51
abbrev bqF : Stmt := top 52
abbrev cqU : Stmt := top 53
abbrev aqS : Stmt := top 57
abbrev bqi : Stmt := top 59
abbrev bqg : Stmt := top 62
abbrev dqz : Stmt := top 7
abbrev cqN : Stmt := top 22
abbrev eqT : Stmt := top 33
abbrev cqd : Stmt := top 35
abbrev bq7 : Stmt := top 36
abbrev dqG : Stmt := top 37
abbrev bqk : Stmt := top 38
abbrev aqU : Stmt := top 43
abbrev bqM : Stmt := top 50
abbrev bq8 : Stmt := top 54
abbrev cqa : Stmt := top 58
abbrev aqP : Stmt := top 64
abbrev aqT : Stmt := top 13
abbrev cqb : Stmt := top 34
abbrev aqV : Stmt := top 44
abbrev bqI : Stmt := top 55
abbrev cqg : Stmt := top 60
abbrev bq9 : Stmt := top 63
abbrev cqc : Stmt := top 65
abbrev jqm : Stmt := top 32
abbrev bqm : Stmt := top 42
abbrev aq5 : Stmt := top 56
abbrev cqR : Stmt := top 61
abbrev cqT : Stmt := top 67
abbrev gqw : Stmt := top 31
abbrev cqS : Stmt := top 41
abbrev bq4 : Stmt := top 66
abbrev aq6 : Stmt := top 40
abbrev fqd : Stmt := top 39
abbrev bqn : Stmt := top 47
abbrev eqY : Stmt := top 46
abbrev bqH : Stmt := top 68
abbrev nqe : Stmt := top 69
abbrev qq8 : V := .str (Str.ofString " !\"#$&'()*+,-./0123456789:;<=>?@ABCDEFGHIJKLMNOPQRSTUVWXYZ[\\]^_`abcdefghijklmnopqrstuvwxyz{|}~")
abbrev eqC : V := .str (Str.ofString "abcdefghijklmnopqrstuvwxyz")
abbrev kqs : V := .str (Str.ofString "0123456789")
abbrev pqY : V := .int 0
abbrev nq6 : V := .int 1
abbrev sqW : V := .int 2
abbrev sqp : V := .str (Str.ofString ".")
abbrev k_UP : V := .str (Str.ofString "..")
abbrev eq4 : V := .int 0
abbrev mqg : V := .int 1
abbrev hqe : V := .int 60
abbrev iqD : V := .int 60
set_option genInjectivity false
set_option genSizeOf false
set_option genSizeOfSpec false
structure G (K : W.Frag) (mg : Str -> Option Value) where
 bqa : Addr
 aqY : FuncData
 dqe : Fun K "__init__" "NoValue.__init__" aqJ bqa aqY
 bqU : Binds K aqY ["self", "name"] []
 fqT : Addr
 eqR : FuncData
 eqI : Fun K "made_of" "made_of" dqF fqT eqR
 gqh : mg "made_of" = some (.ref fqT)
 gqr : Binds K eqR ["text", "signs"] []
 bqo : Addr
 aq9 : FuncData
 bq5 : Fun K "is_whole_number" "is_whole_number" aqO bqo aq9
 dqI : mg "is_whole_number" = some (.ref bqo)
 dqM : Binds K aq9 ["thing"] []
 hqj : Addr
 fq4 : FuncData
 gqe : Fun K "is_dot" "is_dot" eqQ hqj fq4
 hqt : mg "is_dot" = some (.ref hqj)
 hqm : Binds K fq4 ["step"] []
 hql : Addr
 fqY : FuncData
 fq1 : Fun K "is_gap" "is_gap" eqS hql fqY
 hqs : mg "is_gap" = some (.ref hql)
 hqi : Binds K fqY ["piece"] []
 fqU : Addr
 eq1 : FuncData
 dqL : Fun K "name_of" "name_of" dqH fqU eq1
 eqH : mg "name_of" = some (.ref fqU)
 eqz : Binds K eq1 ["gap"] []
 fqP : Addr
 eqX : FuncData
 dqB : Fun K "head_of" "head_of" dqN fqP eqX
 eqo : mg "head_of" = some (.ref fqP)
 eqD : Binds K eqX ["piece"] []
 fqG : Addr
 eqP : FuncData
 dqD : Fun K "tail_of" "tail_of" dqx fqG eqP
 eqG : mg "tail_of" = some (.ref fqG)
 eqK : Binds K eqP ["piece"] []
 eq3 : Addr
 dq1 : FuncData
 gqJ : Fun K "has_rest" "has_rest" cqL eq3 dq1
 jqg : mg "has_rest" = some (.ref eq3)
 iqZ : Binds K dq1 ["pattern"] []
 cqo : Addr
 bqP : FuncData
 aq4 : Fun K "_law_cell_at" "_law_cell_at" aq3 cqo bqP
 bqu : mg "_law_cell_at" = some (.ref cqo)
 bqv : Binds K bqP ["_law_script", "_law_k"] []
 dqk : Addr
 cqF : FuncData
 eqM : Fun K "_law_names" "_law_names" bqL dqk cqF
 gqZ : mg "_law_names" = some (.ref dqk)
 gq6 : Binds K cqF ["_law_cell", "_law_many"] []
 dqp : Addr
 cqH : FuncData
 eqt : Fun K "_law_signs" "_law_signs" bqF dqp cqH
 gqY : mg "_law_signs" = some (.ref dqp)
 gq3 : Binds K cqH ["_law_cell"] []
 eq8 : Addr
 eqb : FuncData
 bq2 : Fun K "_law_run" "_law_run" cqU eq8 eqb
 cqM : mg "_law_run" = some (.ref eq8)
 cqO : Binds K eqb ["_law_cell", "_law_signs_here", "_law_many"] []
 bqC : Addr
 bqh : FuncData
 cqt : Fun K "_law_fits_step" "_law_fits_step" aqS bqC bqh
 eqm : mg "_law_fits_step" = some (.ref bqC)
 eqk : Binds K bqh ["_law_piece_here", "_law_step_here"] []
 cqB : Addr
 cqp : FuncData
 dq7 : Fun K "_law_is_way" "_law_is_way" bqi cqB cqp
 fq5 : mg "_law_is_way" = some (.ref cqB)
 fqL : Binds K cqp ["_law_found"] []
 cqI : Addr
 cql : FuncData
 dq4 : Fun K "_law_values" "_law_values" bqg cqI cql
 gqo : mg "_law_values" = some (.ref cqI)
 gqi : Binds K cql ["_law_pattern_here", "_law_way_here"] []
 fqM : Addr
 eq0 : FuncData
 iqk : Fun K "is_text" "is_text" dqz fqM eq0
 jq7 : mg "is_text" = some (.ref fqM)
 lqb : Binds K eq0 ["thing"] []
 eq2 : Addr
 dqX : FuncData
 fqc : Fun K "names_of" "names_of" cqN eq2 dqX
 gqF : mg "names_of" = some (.ref eq2)
 gqU : Binds K dqX ["pieces"] []
 hqn : Addr
 fqZ : FuncData
 jqu : Fun K "spread" "spread" eqT hqn fqZ
 lq8 : mg "spread" = some (.ref hqn)
 mqx : Binds K fqZ ["pattern", "count"] []
 dqT : Addr
 dqc : FuncData
 fqx : Fun K "fits_part" "fits_part" cqd dqT dqc
 hqU : mg "fits_part" = some (.ref dqT)
 hqz : Binds K dqc ["part", "step"] []
 eqd : Addr
 dqb : FuncData
 fqC : Fun K "is_number" "is_number" bq7 eqd dqb
 iqv : mg "is_number" = some (.ref eqd)
 hqK : Binds K dqb ["text"] []
 fqN : Addr
 fqf : FuncData
 gqp : Fun K "is_word" "is_word" dqG fqN fqf
 hqP : mg "is_word" = some (.ref fqN)
 hqI : Binds K fqf ["text"] []
 cqK : Addr
 cqm : FuncData
 dq6 : Fun K "bound_value" "bound_value" bqk cqK cqm
 fq6 : mg "bound_value" = some (.ref cqK)
 fq2 : Binds K cqm ["gap", "steps"] []
 bqx : Addr
 bqf : FuncData
 cqw : Fun K "steps_of_value" "steps_of_value" aqU bqx bqf
 eqj : mg "steps_of_value" = some (.ref bqx)
 eql : Binds K bqf ["gap", "value"] []
 dql : Addr
 cqA : FuncData
 dqh : Fun K "_law_cells" "_law_cells" bqM dql cqA
 eqJ : mg "_law_cells" = some (.ref dql)
 eqr : Binds K cqA ["_law_script", "_law_start", "_law_many"] []
 dqY : Addr
 dqo : FuncData
 bq6 : Fun K "_law_text" "_law_text" bq8 dqY dqo
 cq1 : mg "_law_text" = some (.ref dqY)
 cq8 : Binds K dqo ["_law_cell", "_law_signs_here", "_law_many"] []
 eqc : Addr
 dqi : FuncData
 fqD : Fun K "_law_fits" "_law_fits" cqa eqc dqi
 iqs : mg "_law_fits" = some (.ref eqc)
 iqu : Binds K dqi ["_law_pattern_here", "_law_way_here"] []
 bqj : Addr
 bqb : FuncData
 bq1 : Fun K "_law_goal_piece" "_law_goal_piece" aqP bqj bqb
 dqA : mg "_law_goal_piece" = some (.ref bqj)
 dqK : Binds K bqb ["_law_piece_here", "_law_cell", "_law_signs_here"] []
 bqB : Addr
 bqp : FuncData
 bqy : Fun K "is_filled_text" "is_filled_text" aqT bqB bqp
 cqu : mg "is_filled_text" = some (.ref bqB)
 cqv : Binds K bqp ["thing"] []
 dq9 : Addr
 dqg : FuncData
 fqy : Fun K "step_fits" "step_fits" cqb dq9 dqg
 iqq : mg "step_fits" = some (.ref dq9)
 iqp : Binds K dqg ["piece", "step"] []
 bqY : Addr
 bqA : FuncData
 cqZ : Fun K "refuse_others" "refuse_others" aqV bqY bqA
 eqs : mg "refuse_others" = some (.ref bqY)
 eqp : Binds K bqA ["pattern", "values"] []
 dqr : Addr
 cqD : FuncData
 eqw : Fun K "_law_piece" "_law_piece" bqI dqr cqD
 gq0 : mg "_law_piece" = some (.ref dqr)
 gq1 : Binds K cqD ["_law_cell", "_law_name", "_law_signs_here"] []
 dqR : Addr
 cq9 : FuncData
 fqt : Fun K "_law_step" "_law_step" cqg dqR cq9
 hq7 : mg "_law_step" = some (.ref dqR)
 iqw : Binds K cq9 ["_law_piece_here", "_law_cell", "_law_signs_here"] []
 dqO : Addr
 dqm : FuncData
 fqv : Fun K "_law_goes" "_law_goes" bq9 dqO dqm
 iqm : mg "_law_goes" = some (.ref dqO)
 hqJ : Binds K dqm ["_law_rule_here", "_law_way_here"] []
 dq2 : Addr
 dqn : FuncData
 fqm : Fun K "_law_goal" "_law_goal" cqc dq2 dqn
 iqc : mg "_law_goal" = some (.ref dq2)
 hqZ : Binds K dqn ["_law_pattern_here", "_law_cells_here", "_law_signs_here"] []
 mqp : Addr
 jqQ : FuncData
 oqr : Fun K "fits" "fits" jqm mqp jqQ
 qqa : mg "fits" = some (.ref mqp)
 qqe : Binds K jqQ ["pattern", "way"] []
 cqG : Addr
 cqn : FuncData
 eqg : Fun K "can_be_step" "can_be_step" bqm cqG cqn
 fqV : mg "can_be_step" = some (.ref cqG)
 gql : Binds K cqn ["thing"] []
 cqj : Addr
 bqS : FuncData
 dqw : Fun K "_law_pattern" "_law_pattern" aq5 cqj bqS
 fqh : mg "_law_pattern" = some (.ref cqj)
 fqk : Binds K bqS ["_law_cells_here", "_law_names_here", "_law_signs_here"] []
 eqW : Addr
 dq8 : FuncData
 gqK : Fun K "_law_way" "_law_way" cqR eqW dq8
 iqV : mg "_law_way" = some (.ref eqW)
 iq2 : Binds K dq8 ["_law_pattern_here", "_law_cells_here", "_law_signs_here"] []
 eq5 : Addr
 dq3 : FuncData
 gqI : Fun K "_law_due" "_law_due" cqT eq5 dq3
 jqi : mg "_law_due" = some (.ref eq5)
 iq4 : Binds K dq3 ["_law_rules", "_law_way_here"] []
 jqS : Addr
 hqu : FuncData
 lqx : Fun K "bound" "bound" gqw jqS hqu
 oqf : mg "bound" = some (.ref jqS)
 nqO : Binds K hqu ["pattern", "way"] []
 fqa : Addr
 dqZ : FuncData
 gqB : Fun K "is_value" "is_value" cqS fqa dqZ
 jqh : mg "is_value" = some (.ref fqa)
 jqo : Binds K dqZ ["gap", "value"] []
 eqe : Addr
 dqd : FuncData
 fqz : Fun K "_law_rule" "_law_rule" bq4 eqe dqd
 iqe : mg "_law_rule" = some (.ref eqe)
 iqf : Binds K dqd ["_law_cells_here", "_law_names_here", "_law_signs_here"] []
 cqi : Addr
 bqT : FuncData
 dqv : Fun K "filled_steps" "filled_steps" aq6 cqi bqT
 fql : mg "filled_steps" = some (.ref cqi)
 fqg : Binds K bqT ["piece", "values"] []
 hqo : Addr
 fqK : FuncData
 jqL : Fun K "filled" "filled" fqd hqo fqK
 mqr : mg "filled" = some (.ref hqo)
 mql : Binds K fqK ["pattern", "values"] []
 cqE : Addr
 cqk : FuncData
 dqV : Fun K "led_by_rule" "led_by_rule" bqn cqE cqk
 fqJ : mg "led_by_rule" = some (.ref cqE)
 fq0 : Binds K cqk ["source", "goal", "way"] []
 hqp : Addr
 fqX : FuncData
 hqx : Fun K "led_on" "led_on" eqY hqp fqX
 jqJ : mg "led_on" = some (.ref hqp)
 jqP : Binds K fqX ["rules", "way"] []
 dqf : Addr
 cqC : FuncData
 bqe : Fun K "_law_right" "_law_right" bqH dqf cqC
 bqE : mg "_law_right" = some (.ref dqf)
 bqK : Binds K cqC ["_law_rules", "_law_way_here"] []
 oqT : Addr
 kqR : FuncData
 sqq : Fun K "law" "law" nqe oqT kqR
 tqA : mg "law" = some (.ref oqT)
 tqx : Binds K kqR ["_law_script"] []
 iqb : Tok
 oqm : mg "SIGNS" = some (.str (Str.ofString " !\"#$&'()*+,-./0123456789:;<=>?@ABCDEFGHIJKLMNOPQRSTUVWXYZ[\\]^_`abcdefghijklmnopqrstuvwxyz{|}~") iqb)
 bqd : Tok
 eqO : mg "SMALL_LETTERS" = some (.str (Str.ofString "abcdefghijklmnopqrstuvwxyz") bqd)
 eqq : Tok
 kqL : mg "FIGURES" = some (.str (Str.ofString "0123456789") eqq)
 fqS : Tok
 mqc : mg "ROOTED" = some (.int 0 fqS)
 iqt : Tok
 lqv : mg "STEPS" = some (.int 1 iqt)
 kqn : Tok
 pq7 : mg "ENDS" = some (.int 2 kqn)
 kql : Tok
 pq5 : mg "STAY" = some (.str (Str.ofString ".") kql)
 t_UP : Tok
 c_UP : mg "UP" = some (.str (Str.ofString "..") t_UP)
 gqd : Tok
 dqU : mg "PIECES" = some (.int 0 gqd)
 gqa : Tok
 jqN : mg "CLOSES" = some (.int 1 gqa)
 aq1 : Tok
 eqh : mg "LONGEST_NUMBER" = some (.int 60 aq1)
 bqt : Tok
 fqj : mg "LONGEST_WORD" = some (.int 60 bqt)
 pqw : mg "all" = none
 aqH : mg "isinstance" = none
 mqs : mg "bool" = none
 mqP : mg "int" = none
 bqq : mg "len" = none
 cq2 : mg "range" = none
 nqb : mg "str" = none
 eqB : mg "tuple" = none
 cqX : mg "enumerate" = none
 gqX : mg "list" = none
 sqb : mg "zip" = none
 aqE : Addr
 gqg : mg "NoValue" = some (.ref aqE)
 jqZ : Catch K aqE
 nqV : ExLook K aqE
 hqF : Mk1 K aqE bqa
 eqA : ExSt K aqE "name"
 hqW : ExFld K aqE "name"
 dqC : W.subIn K (.ref aqE) (.ref aqE) = some true
def bqD (K : W.Frag) (C : Addr) : Sp := fun vs H Q _=>∃ (a : Addr) (v : V),vs = [.ref a,v] /\ H a = some (exNew a C) /\ ∀ d,H d = none -> Q .non (upd (upd H a (exSet a C d)) d (.xd [("name", v)]))
theorem iq1 {K : W.Frag} {C : Addr} {H : Hp} {E : XK} {v : V} (hE : ∀ d H',Same H H' -> H' d = some (.xd [("name", v)]) -> E (.ref C) (some d) H') : ∀ a,H a = none -> bqD K C [.ref a,v] (upd H a (exNew a C)) (fun u H2=>u = .non /\ ∃ d,H2 a = some (exSet a C d) /\ E (.ref C) (some d) (forget H2 a)) E0 := by
 intro a ha
 refine ⟨a,v,rfl,aqj,fun d hd=>?_⟩
 have hda : d ≠ a := fun z=>by rw [z,aqj] at hd; cases hd
 rw [aqo hda] at hd
 refine ⟨rfl,d,by rw [aqo hda.symm,aqj],hE d _ (fun b o e=>?_) ?_⟩
 ·have ba : b ≠ a := aqm e ha
  rw [bqV ba,aqo (aqm e hd),aqo ba,aqo ba]
  exact e
 ·rw [bqV hda,aqj]
def mqF : Sp := fun vs H Q _=>∃ x y : Str,vs = [.str x,.str y] /\ x.length <= 100000 /\ ∀ H',Same H H' -> Q (.bl (x.cps.toList.all fun c=>decide (c ∈ y.cps.toList))) H'
def gqn : Sp := fun vs H Q _=>∃ (d : PyData) (v : V),vs = [v] /\ Is H d v /\ Q (.bl (match d with | .int _=>true | _=>false)) H
def jqY : Sp := fun vs H Q _=>∃ s : Stp,vs = [sV s] /\ Q (.bl (isDot s)) H
def nqF (K : W.Frag) : Sp := fun vs H Q _=>∃ (c : Pc) (p : Addr),vs = [.ref p] /\ SqT K H p c.vals /\ Q (.bl (!c.isStep)) H
def jqd (K : W.Frag) : Sp := fun vs H Q _=>∃ (c : Pc) (p : Addr),vs = [.ref p] /\ SqT K H p c.vals /\ c.isStep = false /\ Q (tV c.name) H
def iq5 (K : W.Frag) : Sp := fun vs H Q _=>∃ (c : Pc) (p : Addr),vs = [.ref p] /\ SqT K H p c.vals /\ Q (tV c.head) H
def iq6 (K : W.Frag) : Sp := fun vs H Q _=>∃ (c : Pc) (p : Addr),vs = [.ref p] /\ SqT K H p c.vals /\ Q (tV c.tail) H
def lqg (K : W.Frag) : Sp := fun vs H Q _=>∃ (cs : List Pc) (xs : List V) (p q : Addr) (e : Bool),vs = [.ref p] /\ SqT K H p [.ref q,.bl e] /\ SqT K H q xs /\ PcAll K H cs xs /\ cs.length <= 1000 /\ Q (.bl (hasRest cs)) H
def hqG (K : W.Frag) : Sp := fun vs H Q _=>∃ (a : Addr) (ns : List Int) (k : Nat),vs = [.ref a,.int (k : Int)] /\ SqL K H a (ns.map V.int) /\ Q (.int (ns.getD k 0)) H
def jqx (K : W.Frag) : Sp := fun vs H Q _=>∃ (c : Int) (m : Nat),vs = [.int c,.int (m : Int)] /\ m <= 26 /\ ∀ (ns : List (List Nat)) (p : Addr) (H' : Hp),ns.length = m -> (∀ n ∈ ns,0 < n.length /\ n.length <= 8 /\ n.all isSma = true) -> ns.Nodup -> Same H H' -> H' p = some (.lst (ns.map tV)) -> Q (.ref p) H'
def jqT (K : W.Frag) : Sp := fun vs H Q _=>∃ c : Int,vs = [.int c] /\ ∀ (l : List Nat) (H' : Hp),0 < l.length -> l.length <= 5 -> (∀ c ∈ l,isSg c = true) -> Same H H' -> Q (tV l) H'
def lqc : Sp := fun vs H Q _=>∃ (c : Int) (g : List Nat) (m : Nat),vs = [.int c,tV g,.int (m : Int)] /\ 0 < g.length /\ g.length <= 100 /\ m <= 100 /\ ∀ l : List Nat,l.length = m -> (∀ x ∈ l,x ∈ g) -> Q (tV l) H
def gqG (K : W.Frag) : Sp := fun vs H Q _=>∃ (c : Pc) (p : Addr) (s : List Nat),vs = [.ref p,tV s] /\ SqT K H p c.vals /\ PcOk c /\ 0 < s.length /\ s.length <= 20000 /\ (∀ c ∈ s,isSg c = true) /\ ∀ H',Same H H' -> Q (.bl (fitsM c s)) H'
def iqK (K : W.Frag) : Sp := fun vs H Q _=>∃ (r t : Addr) (a b : Bool) (w : List (List Nat)),vs = [.ref r] /\ H r = some (.tup [.bl a,.ref t,.bl b]) /\ H t = some (.tup (w.map tV)) /\ w.length <= 500 /\ (∀ s ∈ w,s ≠ []) /\ ∀ H',Same H H' -> Q (.bl true) H'
def iqN (K : W.Frag) : Sp := fun vs H Q _=>∃ (cs : List Pc) (e : Bool) (p : Addr) (w : Wy) (v : V),vs = [.ref p,v] /\ PtAt H cs e p /\ cs.length <= 90 /\ (∀ c ∈ cs,PcOk c) /\ (gapsM cs).Nodup /\ WyH H w v /\ WySz w /\ fitsP cs e w.1 w.2.1 w.2.2 = true /\ ∀ (d : Addr) (kvs : List (Key × V)) (H' : Hp),Same H H' -> H' d = some (.dK kvs) -> (∀ n x,atT cs w.2.1 n x -> ∃ v,valV kvs (Sum.inr (⟨n.toArray⟩ : Str)) = some v /\ VlV H' x v) -> Q (.ref d) H'
def mqT : Sp := fun vs H Q _=>∃ (d : PyData) (v : V),vs = [v] /\ Is H d v /\ smallD d = true /\ ∀ H',Same H H' -> Q (.bl (tx d)) H'
def lqU (K : W.Frag) : Sp := fun vs H Q _=>∃ (cs : List Pc) (xs : List V) (q : Addr),vs = [.ref q] /\ SqT K H q xs /\ PcAll K H cs xs /\ cs.length <= 1000 /\ ∀ (p : Addr) (H' : Hp),Same H H' -> H' p = some (.lst ((gapsM cs).map tV)) -> Q (.ref p) H'
def oqB (K : W.Frag) : Sp := fun vs H Q _=>∃ (cs : List Pc) (xs : List V) (p q : Addr) (e : Bool) (n : Nat),vs = [.ref p,.int (n : Int)] /\ SqT K H p [.ref q,.bl e] /\ H q = some (.tup xs) /\ PcAll K H cs xs /\ cs.length <= 100 /\ n <= 500 /\ (spreadM cs n = none -> Q .non H) /\ ∀ (ds : List Pc) (ys : List V) (r : Addr) (H' : Hp),spreadM cs n = some ds -> Same H H' -> SqT K H' r ys -> PcAll K H' ds ys -> Q (.ref r) H'
def kq2 (K : W.Frag) : Sp := fun vs H Q _=>∃ (h n t s : List Nat) (p : Addr),vs = [.ref p,tV s] /\ SqT K H p (Pc.part h n t).vals /\ s.length <= 100000 /\ h.length <= 100000 /\ t.length <= 100000 /\ Q (.bl (partB h t s)) H
def kqv : Sp := fun vs H Q _=>∃ (l : List Nat),vs = [tV l] /\ l.length <= 100000 /\ ∀ H',Same H H' -> Q (.bl (numB l)) H'
def nqc : Sp := fun vs H Q _=>∃ (l : List Nat),vs = [tV l] /\ l.length <= 100000 /\ ∀ H',Same H H' -> Q (.bl (wordB l)) H'
def iqB (K : W.Frag) : Sp := fun vs H Q _=>∃ (c : Pc) (s : List Nat) (ss : List (List Nat)) (p q : Addr),vs = [.ref p,.ref q] /\ SqT K H p c.vals /\ H q = some (.tup ((s :: ss).map tV)) /\ fitsM c s = true /\ s.length <= 100000 /\ c.head.length <= 100000 /\ c.tail.length <= 100000 /\ ss.length <= 1000 /\ ∀ v H',Same H H' -> VlV H' (bvM c (s :: ss)) v -> (∀ q,v = .ref q -> H q = none) -> Q v H'
def gqE (K : W.Frag) : Sp := fun vs H Q _=>∃ (c : Pc) (p : Addr) (d : PyData) (v : V),vs = [.ref p,v] /\ SqT K H p c.vals /\ c.isStep = false /\ c.head.length <= 100000 /\ c.tail.length <= 100000 /\ Is H d v /\ smallD d = true /\ isValD c d = true /\ ∀ (q : Addr) (H' : Hp),Same H H' -> H' q = some (.lst ((stpsD c d).map tV)) -> Q (.ref q) H'
def jqq (K : W.Frag) : Sp := fun vs H Q _=>∃ (a : Addr) (ns : List Int) (s m : Nat),vs = [.ref a,.int (s : Int),.int (m : Int)] /\ SqL K H a (ns.map V.int) /\ m <= 100 /\ ∀ (is : List Int) (p : Addr) (H' : Hp),is.length = m -> Same H H' -> H' p = some (.lst (is.map V.int)) -> Q (.ref p) H'
def kqk : Sp := fun vs H Q _=>∃ (c : Int) (g : List Nat) (m : Nat),vs = [.int c,tV g,.int (m : Int)] /\ 0 < g.length /\ g.length <= 100 /\ 0 < m /\ m <= 100 /\ ∀ l : List Nat,0 < l.length -> l.length <= m + 2 -> (46 ∉ g -> l.length = m) -> (∀ x ∈ l,x ∈ g \/ (46 ∈ g /\ x = 45)) -> isDot l = false -> Q (tV l) H
def kqO (K : W.Frag) : Sp := fun vs H Q _=>∃ (cs : List Pc) (xs : List V) (p q pw ps : Addr) (cl r e : Bool) (ss : List (List Nat)),vs = [.ref p,.ref pw] /\ SqT K H p [.ref q,.bl cl] /\ H q = some (.tup xs) /\ PcT H cs xs /\ cs.length <= 90 /\ (∀ c ∈ cs,PcOk c /\ PcSg c) /\ SqT K H pw [.bl r,.ref ps,.bl e] /\ H ps = some (.tup (ss.map tV)) /\ ss.length <= 500 /\ (∀ s ∈ ss,0 < s.length /\ s.length <= 20000 /\ ∀ c ∈ s,isSg c = true) /\ ∀ H',Same H H' -> Q (.bl (fitsP cs cl r ss e)) H'
def fqH (K : W.Frag) : Sp := fun vs H Q _=>∃ (c : Pc) (p : Addr) (i : Int) (g : List Nat),vs = [.ref p,.int i,tV g] /\ H p = some (.tup c.vals) /\ PcOk c /\ c.isStep = false /\ c.isRest = false /\ 0 < g.length /\ g.length <= 100 /\ (∀ x ∈ g,isSg x = true) /\ ∀ (c' : Pc) (p' : Addr) (H' : Hp),PcOk c' -> c'.isStep = false -> c'.isRest = false -> c'.name = c.name -> (c.isPart = true -> c'.isPart = true) -> (c.isPart = false -> c' = c) -> Same H H' -> H' p' = some (.tup c'.vals) -> Q (.ref p') H'
def gqV : Sp := fun vs H Q _=>∃ (d : PyData) (v : V),vs = [v] /\ Is H d v /\ smallD d = true /\ ∀ H',Same H H' -> Q (.bl (ftx d)) H'
def kqZ (K : W.Frag) : Sp := fun vs H Q _=>∃ (c : Pc) (s : List Nat) (p : Addr),vs = [.ref p,tV s] /\ SqT K H p c.vals /\ s.length <= 100000 /\ c.head.length <= 100000 /\ c.tail.length <= 100000 /\ ∀ H',Same H H' -> Q (.bl (fitsM c s)) H'
def gqP (K : W.Frag) (CN : Addr) : Sp := fun vs H Q E=>∃ (cs : List Pc) (xs : List V) (p q pz : Addr) (cl : Bool) (ws : List (List Nat × PyData)) (ys : List V),vs = [.ref p,.ref pz] /\ SqT K H p [.ref q,.bl cl] /\ SqT K H q xs /\ PcAll K H cs xs /\ cs.length <= 100 /\ H pz = some (.lst ys) /\ VlsV H ws ys /\ ws.length <= 100000 /\
 (otherM cs ws = none -> ∀ H',Same H H' -> Q .non H') /\ ∀ n,otherM cs ws = some n -> ∀ d H',Same H H' -> H' d = some (.xd [("name", tV n)]) -> E (.ref CN) (some d) H'
def jqH (K : W.Frag) : Sp := fun vs H Q _=>∃ (c : Int) (n g : List Nat),vs = [.int c,tV n,tV g] /\ 0 < g.length /\ g.length <= 100 /\ (∀ x ∈ g,isSg x = true) /\ ∀ (pc : Pc) (p : Addr) (H' : Hp),PcOk pc -> pc.isRest = false -> (pc.isStep = false -> pc.name = n) -> Same H H' -> H' p = some (.tup pc.vals) -> Q (.ref p) H'
def kqB (K : W.Frag) : Sp := fun vs H Q _=>∃ (c : Pc) (p : Addr) (i : Int) (g : List Nat),vs = [.ref p,.int i,tV g] /\ H p = some (.tup c.vals) /\ PcOk c /\ 0 < g.length /\ g.length <= 100 /\ (∀ x ∈ g,isSg x = true) /\ ∀ (l : List Nat) (H' : Hp),Same H H' -> fitsM c l = true -> 0 < l.length -> l.length <= 300 -> (∀ x ∈ l,isSg x = true) -> Q (tV l) H'
def kqp (K : W.Frag) : Sp := fun vs H Q _=>∃ (r : Pt × Pt) (v : V) (w : Wy) (v' : V),vs = [v,v'] /\ RlAt H r v /\ RlOk r /\ PcsOk r.1.1 /\ (gapsM r.1.1).Nodup /\ (∀ d ∈ r.2.1,GoK r.1.1 d) /\ (r.2.1.filter Pc.isRest).length <= 1 /\ r.2.1.length <= 4 /\ WyH H w v' /\ WySz w /\ (∀ s ∈ w.2.1,s ≠ []) /\ (ledR r w = none -> ∀ H',Same H H' -> Q .non H') /\ ∀ (u : Wy) (x : V) (H' : Hp),ledR r w = some u -> Same H H' -> WyH H' u x -> Q x H'
def kqj (K : W.Frag) : Sp := fun vs H Q _=>∃ (cs : List Pc) (e : Bool) (p pc : Addr) (g : List Nat) (is : List Int),vs = [.ref p,.ref pc,tV g] /\ cs.length <= 6 /\ PatOk cs /\ (∀ c ∈ cs,PcSg c) /\ PtAt H cs e p /\ H pc = some (.lst (is.map V.int)) /\ is.length = 4 /\ 0 < g.length /\ g.length <= 100 /\ (∀ x ∈ g,isSg x = true) /\
 ∀ (ds : List Pc) (e' : Bool) (p' : Addr) (H' : Hp),ds.length <= 4 -> (∀ c ∈ ds,PcOk c /\ PcSg c) -> (ds.filter Pc.isRest).length <= 1 -> (∀ d ∈ ds,GoK cs d) -> Same H H' -> PtAt H' ds e' p' -> Q (.ref p') H'
def qqJ (K : W.Frag) : Sp := fun vs H Q _=>∃ (cs : List Pc) (xs : List V) (p q pw ps : Addr) (cl r e : Bool) (ss : List (List Nat)),vs = [.ref p,.ref pw] /\ SqT K H p [.ref q,.bl cl] /\ H q = some (.tup xs) /\ PcAll K H cs xs /\ cs.length <= 100 /\ PcSz cs /\ SqT K H pw [.bl r,.ref ps,.bl e] /\ SqT K H ps (ss.map tV) /\ ss.length <= 500 /\ (∀ s ∈ ss,s.length <= 100000) /\ ∀ H',Same H H' -> Q (.bl (fitsP cs cl r ss e)) H'
def iqA (K : W.Frag) : Sp := fun vs H Q _=>∃ (d : PyData) (v : V),vs = [v] /\ Is H d v /\ smallD d = true /\ ∀ H',Same H H' -> Q (.bl (canD d)) H'
def hqD (K : W.Frag) : Sp := fun vs H Q _=>∃ (pc pn : Addr) (g : List Nat) (ns : List (List Nat)) (is : List Int),vs = [.ref pc,.ref pn,tV g] /\ H pc = some (.lst (is.map V.int)) /\ 6 <= is.length /\ H pn = some (.lst (ns.map tV)) /\ ns.length = 7 /\ ns.Nodup /\ (∀ n ∈ ns,∀ x ∈ n,isSg x = true) /\ 0 < g.length /\ g.length <= 100 /\ (∀ x ∈ g,isSg x = true) /\ ∀ (ps : List Pc) (e : Bool) (p q : Addr) (xs : List V) (H' : Hp),PatOk ps -> ps.length <= 6 -> (gapsM ps).Nodup -> (∀ n ∈ gapsM ps,n ∈ ns) -> (ps = [] -> e = true) -> Same H H' -> H' q = some (.tup xs) -> PcT H' ps xs -> H' p = some (.tup [.ref q,.bl e]) -> Q (.ref p) H'
def lqD (K : W.Frag) : Sp := fun vs H Q _=>∃ (cs : List Pc) (e : Bool) (p pc : Addr) (g : List Nat) (is : List Int),vs = [.ref p,.ref pc,tV g] /\ PcsOk cs /\ PtAt H cs e p /\ H pc = some (.lst (is.map V.int)) /\ is.length = 8 /\ 0 < g.length /\ g.length <= 100 /\ (∀ x ∈ g,isSg x = true) /\ ∀ (v : V) (H' : Hp),Same H H' -> WyAt H' cs e v -> Q v H'
def lqu (K : W.Frag) : Sp := fun vs H Q _=>∃ (rs : List (Pt × Pt)) (lr : Addr) (rv : List V) (w : Wy) (v : V),vs = [.ref lr,v] /\ H lr = some (.lst rv) /\ RlsAt H rs rv /\ rs.length <= 1000 /\ (∀ r ∈ rs,RlOk r /\ PcsOk r.1.1 /\ (gapsM r.1.1).Nodup /\ (∀ d ∈ r.2.1,GoK r.1.1 d) /\ (r.2.1.filter Pc.isRest).length <= 1 /\ r.2.1.length <= 4) /\ WyH H w v /\ WySz w /\ (∀ s ∈ w.2.1,s ≠ []) /\ (ledM rs w = none -> ∀ H',Same H H' -> Q .non H') /\ ∀ (w' : Wy) (v' : V) (H' : Hp),ledM rs w = some w' -> Same H H' -> WyH H' w' v' -> Q v' H'
def pqj (K : W.Frag) : Sp := fun vs H Q _=>∃ (cs : List Pc) (xs : List V) (p q pw ps : Addr) (cl r e : Bool) (ss : List (List Nat)),vs = [.ref p,.ref pw] /\ SqT K H p [.ref q,.bl cl] /\ H q = some (.tup xs) /\ PcAll K H cs xs /\ cs.length <= 100 /\ PcSz cs /\ SqT K H pw [.bl r,.ref ps,.bl e] /\ H ps = some (.tup (ss.map tV)) /\ ss.length <= 500 /\ (∀ s ∈ ss,s.length <= 100000) /\
 (fitsP cs cl r ss e = false -> ∀ H',Same H H' -> Q .non H') /\ (fitsP cs cl r ss e = true -> ∀ (l : Addr) (ys : List V) (H' : Hp),Same H H' -> H' l = some (.lst ys) -> BndV H' l (boundM cs ss) ys -> Q (.ref l) H')
def lqi (K : W.Frag) : Sp := fun vs H Q _=>∃ (c : Pc) (p : Addr) (d : PyData) (v : V),vs = [.ref p,v] /\ SqT K H p c.vals /\ c.isStep = false /\ c.head.length <= 100000 /\ c.tail.length <= 100000 /\ Is H d v /\ smallD d = true /\ ∀ H',Same H H' -> Q (.bl (isValD c d)) H'
def kqc (K : W.Frag) : Sp := fun vs H Q _=>∃ (pc pn : Addr) (g : List Nat) (ns : List (List Nat)) (is : List Int),vs = [.ref pc,.ref pn,tV g] /\ H pc = some (.lst (is.map V.int)) /\ is.length = 10 /\ H pn = some (.lst (ns.map tV)) /\ ns.length = 7 /\ ns.Nodup /\ (∀ n ∈ ns,∀ x ∈ n,isSg x = true) /\ 0 < g.length /\ g.length <= 100 /\ (∀ x ∈ g,isSg x = true) /\
 ∀ (r : Pt × Pt) (v : V) (H' : Hp),RlOk r -> PcsOk r.1.1 -> r.2.1.length <= 4 -> (r.2.1.filter Pc.isRest).length <= 1 -> PatOk r.1.1 -> (gapsM r.1.1).Nodup -> (∀ d ∈ r.2.1,GoK r.1.1 d) -> Same H H' -> RlAt H' r v -> Q v H'
def hqg (K : W.Frag) (CN : Addr) : Sp := fun vs H Q E=>∃ (c : Pc) (p pz : Addr) (ws : List (List Nat × PyData)) (ys : List V),vs = [.ref p,.ref pz] /\ SqT K H p c.vals /\ c.head.length <= 100000 /\ c.tail.length <= 100000 /\ H pz = some (.lst ys) /\ VlsV H ws ys /\ ws.length <= 100000 /\ (∀ w ∈ ws,smallD w.2 = true) /\
 (∀ ss,fillS c ws = .ok ss -> ∀ (q : Addr) (H' : Hp),Same H H' -> H' q = some (.lst (ss.map tV)) -> Q (.ref q) H') /\
 ∀ n,fillS c ws = .error n -> ∀ d H',Same H H' -> H' d = some (.xd [("name", tV n)]) -> E (.ref CN) (some d) H'
def mq8 (K : W.Frag) (CN : Addr) : Sp := fun vs H Q E=>∃ (cs : List Pc) (xs : List V) (p q pz : Addr) (cl : Bool) (ws : List (List Nat × PyData)) (ys : List V),vs = [.ref p,.ref pz] /\ SqT K H p [.ref q,.bl cl] /\ SqT K H q xs /\ PcAll K H cs xs /\ cs.length <= 100 /\ PcSz cs /\ H pz = some (.lst ys) /\ VlsV H ws ys /\ ws.length <= 100000 /\ (∀ w ∈ ws,smallD w.2 = true) /\
 (∀ ss,fillM cs ws = .ok ss -> ∀ (pw qw : Addr) (H' : Hp),Same H H' -> H' qw = some (.tup (ss.map tV)) -> H' pw = some (.tup [.bl true,.ref qw,.bl cl]) -> Q (.ref pw) H') /\ ∀ n,fillM cs ws = .error n -> ∀ d H',Same H H' -> H' d = some (.xd [("name", tV n)]) -> E (.ref CN) (some d) H'
def iqR (K : W.Frag) : Sp := fun vs H Q _=>∃ (r : Pt × Pt) (ps pg : Addr) (w : Wy) (v : V),vs = [.ref ps,.ref pg,v] /\ RlOk r /\ PtAt H r.1.1 r.1.2 ps /\ PtAt H r.2.1 r.2.2 pg /\ WyH H w v /\ WySz w /\ (ledR r w = none -> ∀ H',Same H H' -> Q .non H') /\ ∀ (w' : Wy) (v' : V) (H' : Hp),ledR r w = some w' -> Same H H' -> WyH H' w' v' -> Q v' H'
def nqW (K : W.Frag) : Sp := fun vs H Q _=>∃ (rs : List (Pt × Pt)) (lr : Addr) (rv : List V) (w : Wy) (v : V),vs = [.ref lr,v] /\ H lr = some (.lst rv) /\ RlsAt H rs rv /\ rs.length <= 1000 /\ (∀ r ∈ rs,RlOk r) /\ WyH H w v /\ WySz w /\ (ledM rs w = none -> ∀ H',Same H H' -> Q .non H') /\ ∀ (w' : Wy) (v' : V) (H' : Hp),ledM rs w = some w' -> Same H H' -> WyH H' w' v' -> Q v' H'
def gqm (K : W.Frag) : Sp := fun vs H Q _=>∃ (rs : List (Pt × Pt)) (lr : Addr) (rv : List V) (w : Wy) (v : V),vs = [.ref lr,v] /\ H lr = some (.lst rv) /\ RlsAt H rs rv /\ rs.length <= 1000 /\ (∀ r ∈ rs,RlGood r) /\ WyH H w v /\ WySz w /\ (∀ s ∈ w.2.1,s ≠ []) /\ w.2.1.length <= 400 /\ (∀ s ∈ w.2.1,s.length <= 1000) /\ ∀ H',Same H H' -> Q (.bl true) H'
def mqn (K : W.Frag) : Sp := fun vs H Q _=>∃ (a : Addr) (ns : List Int),vs = [.ref a] /\ SqL K H a (ns.map V.int) /\ ns.length <= 63 /\ ∀ H',Q (.bl true) H'
section
variable {H : Hp} {Q : VK} {E : XK} {K : W.Frag}
end
section
variable {P : Program} {w : World} {K : W.Frag} {mg : Str -> Option Value} {base : Heap}
seal PE PA PT PS PSs PG PI PF PO PW
local macro_rules | `(tactic| walk_at "rd")=>`(tactic| simp only [L2.start,List.map_cons,List.map_nil,List.length_cons,List.length_nil,Nat.reduceAdd,Nat.reduceSub,Nat.zero_add,List.replicate_succ,List.replicate_zero,L2.sqO,L2.rd_C,L2.sqU,L2.tql,L2.oq7,L2.sqD,L2.qqu,L2.tqb,L2.rqb,L2.sqe,L2.sq0,L2.rqz,L2.tqF,L2.qqr,L2.rd_B,L2.sq2,L2.tqo,L2.sqy,L2.qq2,L2.sq3,L2.rqt,L2.tqC,L2.pqa,L2.tqj,L2.qql,L2.sqG,L2.sqH,L2.qqV,L2.rqN,L2.nqN,L2.dqP,L2.qqH,L2.rqs,L2.qq0,L2.pqt,L2.rqC,L2.tqv,L2.tqr,L2.sqS,L2.tqu,L2.nqD,L2.rqk,L2.oqX,L2.rd_I,L2.pqQ,L2.oqK,L2.aqt,L2.qqM,L2.nqz,L2.jqG,L2.lqN,L2.rqT,L2.qq6,L2.oq5,L2.qq7,L2.rqx,L2.oq0,L2.sqx,L2.qqj,L2.rq2,L2.eqN,L2.sq9,L2.qqC,L2.pqd,L2.rqo,L2.pqM,L2.pqu,L2.oqt,L2.pqm,L2.pqh,L2.oqL,L2.mq3,L2.gqv,L2.hqf,L2.hqd,L2.gqN,L2.fq3,L2.jqC,L2.kqN,L2.jq6,L2.jqO,L2.iqO,L2.jq8,L2.lqf,L2.lqF,L2.kqd,L2.jqr,L2.kq4,L2.lqG,L2.lql,L2.jqW,L2.jqy,L2.jqK,L2.kqb,L2.jq1,L2.jqU,L2.iqF,L2.iqJ,L2.jqs,L2.jqV,L2.iqC,L2.iqx,L2.rqG,L2.rqS,L2.pqZ,L2.qqN,L2.qqD,L2.cx_K,L2.rq1,L2.oqp,L2.rqW,L2.rqX,L2.sqZ,L2.oqE,L2.sqI,L2.sqa,L2.sq5,L2.oqs,L2.tqs,L2.tqB,L2.tqt,L2.pq0,L2.pqn,L2.qqw,L2.pqf,Option.getD_some,L2.sqR,L2.tqw,L2.rd_U,L2.sq1,L2.rqE,L2.pqi,L2.qqZ,L2.lqw,L2.rqF,L2.sqL,L2.squ,L2.qqq,L2.qqK,L2.qqY,L2.qqX,List.getElem?_cons_zero,List.getElem?_cons_succ,List.set_cons_zero,List.set_cons_succ,List.nil_append,List.cons_append,List.append_nil,Option.some.injEq,exists_eq_left,exists_eq_left',true_and,and_true,L2.V.bl.injEq,L2.V.int.injEq,L2.V.str.injEq,L2.V.ref.injEq,List.cons.injEq,reduceCtorEq,false_and,and_false,exists_false,false_or,or_false,decide_eq_true_eq,Bool.not_true,Bool.not_false,↓reduceIte,if_true,if_false,not_true_eq_false,not_false_eq_true,decide_true,decide_false,Bool.false_eq_true,L2.pqb,L2.rqd,L2.pqW,L2.oqV,L2.tqk,tqn,L2.rq7,L2.pqU,L2.tqH,L2.rqr,L2.pqK,L2.pqz,L2.oq3,L2.tqp,L2.nq1,L2.rqg,L2.sqY,L2.mqt,L2.sqk,L2.tqc,L2.qqz,L2.sqv,L2.rq3,L2.sqc,L2.qqm,L2.rqf,L2.qqA,L2.rqm,L2.qqp,L2.nqj,L2.oqN,L2.pqE,L2.mq9,L2.pqH,L2.mq6,L2.mqB,L2.mqt,L2.nqM,L2.qqU,L2.mqZ,L2.sqh,L2.qq1,L2.rql,L2.pqV,L2.qqS,L2.rqv,L2.rqJ,L2.lqO,L2.lqV,L2.sql,L2.qqg,L2.nqP,L2.qqn,L2.qqP,L2.rqQ,L2.rqA,L2.rqH,sqJ,pqk,cq3,cqy,qq5,rqO,rqp,List.drop_succ_cons,List.drop_zero,L2.oqZ,L2.tqh,L2.sqX,L2.tqd,Bool.not_eq_true',decide_eq_false_iff_not])
theorem fqs : FnScope ["self", "name"] ["self", "name"] (defScope aqJ) := ⟨rfl,rfl,rfl,by decide +kernel,rfl,by decide +kernel,by decide +kernel⟩
theorem mqR : FnScope ["text", "signs"] ["text", "signs"] (defScope dqF) := ⟨rfl,rfl,rfl,by decide +kernel,rfl,by decide +kernel,by decide +kernel⟩
theorem fqR : FnScope ["thing"] ["thing"] (defScope aqO) := ⟨rfl,rfl,rfl,by decide +kernel,rfl,by decide +kernel,by decide +kernel⟩
theorem nqA : FnScope ["step"] ["step"] (defScope eqQ) := ⟨rfl,rfl,rfl,by decide +kernel,rfl,by decide +kernel,by decide +kernel⟩
theorem oqy : FnScope ["piece"] ["piece"] (defScope eqS) := ⟨rfl,rfl,rfl,by decide +kernel,rfl,by decide +kernel,by decide +kernel⟩
theorem mqH : FnScope ["gap"] ["gap"] (defScope dqH) := ⟨rfl,rfl,rfl,by decide +kernel,rfl,by decide +kernel,by decide +kernel⟩
theorem mqS : FnScope ["piece"] ["piece"] (defScope dqN) := ⟨rfl,rfl,rfl,by decide +kernel,rfl,by decide +kernel,by decide +kernel⟩
theorem nqa : FnScope ["piece"] ["piece"] (defScope dqx) := ⟨rfl,rfl,rfl,by decide +kernel,rfl,by decide +kernel,by decide +kernel⟩
theorem iqh : FnScope ["pattern", "pieces"] ["pattern"] (defScope cqL) := ⟨rfl,rfl,rfl,by decide +kernel,rfl,by decide +kernel,by decide +kernel⟩
theorem hqL : FnScope ["_law_script", "_law_k"] ["_law_script", "_law_k"] (defScope aq3) := ⟨rfl,rfl,rfl,by decide +kernel,rfl,by decide +kernel,by decide +kernel⟩
theorem aqD : FnScope ["_law_cell", "_law_many", "_law_letters", "_law_size", "_law_spot", "_law_found", "_law_number", "_law_name", "_law_k", "_law_place"] ["_law_cell", "_law_many"] (defScope bqL) := ⟨rfl,rfl,rfl,by decide +kernel,rfl,by decide +kernel,by decide +kernel⟩
theorem bqQ : FnScope ["_law_cell", "_law_some", "_law_found", "_law_k"] ["_law_cell"] (defScope bqF) := ⟨rfl,rfl,rfl,by decide +kernel,rfl,by decide +kernel,by decide +kernel⟩
theorem eqa : FnScope ["_law_cell", "_law_signs_here", "_law_many", "_law_found", "_law_k"] ["_law_cell", "_law_signs_here", "_law_many"] (defScope cqU) := ⟨rfl,rfl,rfl,by decide +kernel,rfl,by decide +kernel,by decide +kernel⟩
theorem gqu : FnScope ["_law_piece_here", "_law_step_here"] ["_law_piece_here", "_law_step_here"] (defScope aqS) := ⟨rfl,rfl,rfl,by decide +kernel,rfl,by decide +kernel,by decide +kernel⟩
theorem iqS : FnScope ["_law_found"] ["_law_found"] (defScope bqi) := ⟨rfl,rfl,rfl,by decide +kernel,rfl,by decide +kernel,by decide +kernel⟩
theorem aq7 : FnScope ["_law_pattern_here", "_law_way_here", "_law_found", "_law_k", "_law_piece_here", "_law_step_here", "_law_far"] ["_law_pattern_here", "_law_way_here"] (defScope bqg) := ⟨rfl,rfl,rfl,by decide +kernel,rfl,by decide +kernel,by decide +kernel⟩
theorem mqO : FnScope ["thing"] ["thing"] (defScope dqz) := ⟨rfl,rfl,rfl,by decide +kernel,rfl,by decide +kernel,by decide +kernel⟩
theorem lqk : FnScope ["pieces"] ["pieces"] (defScope cqN) := ⟨rfl,rfl,rfl,by decide +kernel,rfl,by decide +kernel,by decide +kernel⟩
theorem iqy : FnScope ["pattern", "count", "pieces", "more"] ["pattern", "count"] (defScope eqT) := ⟨rfl,rfl,rfl,by decide +kernel,rfl,by decide +kernel,by decide +kernel⟩
theorem eqx : FnScope ["part", "step", "head", "tail"] ["part", "step"] (defScope cqd) := ⟨rfl,rfl,rfl,by decide +kernel,rfl,by decide +kernel,by decide +kernel⟩
theorem kqV : FnScope ["text"] ["text"] (defScope bq7) := ⟨rfl,rfl,rfl,by decide +kernel,rfl,by decide +kernel,by decide +kernel⟩
theorem mqK : FnScope ["text"] ["text"] (defScope dqG) := ⟨rfl,rfl,rfl,by decide +kernel,rfl,by decide +kernel,by decide +kernel⟩
theorem iqP : FnScope ["gap", "steps"] ["gap", "steps"] (defScope bqk) := ⟨rfl,rfl,rfl,by decide +kernel,rfl,by decide +kernel,by decide +kernel⟩
theorem gqH : FnScope ["gap", "value"] ["gap", "value"] (defScope aqU) := ⟨rfl,rfl,rfl,by decide +kernel,rfl,by decide +kernel,by decide +kernel⟩
theorem jqI : FnScope ["_law_script", "_law_start", "_law_many"] ["_law_script", "_law_start", "_law_many"] (defScope bqM) := ⟨rfl,rfl,rfl,by decide +kernel,rfl,by decide +kernel,by decide +kernel⟩
theorem gq2 : FnScope ["_law_cell", "_law_signs_here", "_law_many", "_law_found"] ["_law_cell", "_law_signs_here", "_law_many"] (defScope bq8) := ⟨rfl,rfl,rfl,by decide +kernel,rfl,by decide +kernel,by decide +kernel⟩
theorem cqq : FnScope ["_law_pattern_here", "_law_way_here", "_law_pieces", "_law_rooted", "_law_steps", "_law_ends"] ["_law_pattern_here", "_law_way_here"] (defScope cqa) := ⟨rfl,rfl,rfl,by decide +kernel,rfl,by decide +kernel,by decide +kernel⟩
theorem dqj : FnScope ["_law_piece_here", "_law_cell", "_law_signs_here", "_law_head"] ["_law_piece_here", "_law_cell", "_law_signs_here"] (defScope aqP) := ⟨rfl,rfl,rfl,by decide +kernel,rfl,by decide +kernel,by decide +kernel⟩
theorem gqQ : FnScope ["thing"] ["thing"] (defScope aqT) := ⟨rfl,rfl,rfl,by decide +kernel,rfl,by decide +kernel,by decide +kernel⟩
theorem kqw : FnScope ["piece", "step"] ["piece", "step"] (defScope cqb) := ⟨rfl,rfl,rfl,by decide +kernel,rfl,by decide +kernel,by decide +kernel⟩
theorem bqz : FnScope ["pattern", "values", "names", "name", "value"] ["pattern", "values"] (defScope aqV) := ⟨rfl,rfl,rfl,by decide +kernel,rfl,by decide +kernel,by decide +kernel⟩
theorem cqJ : FnScope ["_law_cell", "_law_name", "_law_signs_here", "_law_kind", "_law_more", "_law_head"] ["_law_cell", "_law_name", "_law_signs_here"] (defScope bqI) := ⟨rfl,rfl,rfl,by decide +kernel,rfl,by decide +kernel,by decide +kernel⟩
theorem eqL : FnScope ["_law_piece_here", "_law_cell", "_law_signs_here", "_law_more", "_law_text_here"] ["_law_piece_here", "_law_cell", "_law_signs_here"] (defScope cqg) := ⟨rfl,rfl,rfl,by decide +kernel,rfl,by decide +kernel,by decide +kernel⟩
theorem cqr : FnScope ["_law_rule_here", "_law_way_here", "_law_values_here", "_law_steps", "_law_piece_here"] ["_law_rule_here", "_law_way_here"] (defScope bq9) := ⟨rfl,rfl,rfl,by decide +kernel,rfl,by decide +kernel,by decide +kernel⟩
theorem bqJ : FnScope ["_law_pattern_here", "_law_cells_here", "_law_signs_here", "_law_gaps", "_law_pieces", "_law_k", "_law_more"] ["_law_pattern_here", "_law_cells_here", "_law_signs_here"] (defScope cqc) := ⟨rfl,rfl,rfl,by decide +kernel,rfl,by decide +kernel,by decide +kernel⟩
theorem lqh : FnScope ["pattern", "way", "steps", "pieces"] ["pattern", "way"] (defScope jqm) := ⟨rfl,rfl,rfl,by decide +kernel,rfl,by decide +kernel,by decide +kernel⟩
theorem iqQ : FnScope ["thing"] ["thing"] (defScope bqm) := ⟨rfl,rfl,rfl,by decide +kernel,rfl,by decide +kernel,by decide +kernel⟩
theorem bqX : FnScope ["_law_cells_here", "_law_names_here", "_law_signs_here", "_law_head", "_law_pieces", "_law_k"] ["_law_cells_here", "_law_names_here", "_law_signs_here"] (defScope aq5) := ⟨rfl,rfl,rfl,by decide +kernel,rfl,by decide +kernel,by decide +kernel⟩
theorem dq5 : FnScope ["_law_pattern_here", "_law_cells_here", "_law_signs_here", "_law_pieces", "_law_steps"] ["_law_pattern_here", "_law_cells_here", "_law_signs_here"] (defScope cqR) := ⟨rfl,rfl,rfl,by decide +kernel,rfl,by decide +kernel,by decide +kernel⟩
theorem fqw : FnScope ["_law_rules", "_law_way_here", "_law_rule_here", "_law_due_here"] ["_law_rules", "_law_way_here"] (defScope cqT) := ⟨rfl,rfl,rfl,by decide +kernel,rfl,by decide +kernel,by decide +kernel⟩
theorem hqq : FnScope ["pattern", "way", "values", "place", "piece"] ["pattern", "way"] (defScope gqw) := ⟨rfl,rfl,rfl,by decide +kernel,rfl,by decide +kernel,by decide +kernel⟩
theorem lqn : FnScope ["gap", "value"] ["gap", "value"] (defScope cqS) := ⟨rfl,rfl,rfl,by decide +kernel,rfl,by decide +kernel,by decide +kernel⟩
theorem gq5 : FnScope ["_law_cells_here", "_law_names_here", "_law_signs_here", "_law_pattern_here"] ["_law_cells_here", "_law_names_here", "_law_signs_here"] (defScope bq4) := ⟨rfl,rfl,rfl,by decide +kernel,rfl,by decide +kernel,by decide +kernel⟩
theorem eqF : FnScope ["piece", "values", "named"] ["piece", "values"] (defScope aq6) := ⟨rfl,rfl,rfl,by decide +kernel,rfl,by decide +kernel,by decide +kernel⟩
theorem hqB : FnScope ["pattern", "values", "steps", "piece"] ["pattern", "values"] (defScope fqd) := ⟨rfl,rfl,rfl,by decide +kernel,rfl,by decide +kernel,by decide +kernel⟩
theorem dqt : FnScope ["source", "goal", "way", "values", "names"] ["source", "goal", "way"] (defScope bqn) := ⟨rfl,rfl,rfl,by decide +kernel,rfl,by decide +kernel,by decide +kernel⟩
theorem gqf : FnScope ["rules", "way", "source", "goal", "led"] ["rules", "way"] (defScope eqY) := ⟨rfl,rfl,rfl,by decide +kernel,rfl,by decide +kernel,by decide +kernel⟩
theorem bql : FnScope ["_law_rules", "_law_way_here", "_law_handed", "_law_turn", "_law_due_here", "_law_kept", "_law_found"] ["_law_rules", "_law_way_here"] (defScope bqH) := ⟨rfl,rfl,rfl,by decide +kernel,rfl,by decide +kernel,by decide +kernel⟩
theorem gq9 : FnScope ["_law_script", "_law_names_here", "_law_signs_here", "_law_some", "_law_rules", "_law_k", "_law_rule_here", "_law_way_here"] ["_law_script"] (defScope nqe) := ⟨rfl,rfl,rfl,by decide +kernel,rfl,by decide +kernel,by decide +kernel⟩
theorem cq0 (g : G K mg) : FnOk P w K mg base CX0 1 g.bqa g.aqY ["self", "name"] (bqD K g.aqE) := by
 refine g.dqe.ok fqs (fun vs H Q E h=>?_) (fun cdv A outer s H vs Q E hr h=>?_)
 ·obtain ⟨a,v,rfl,_⟩ := h; rfl
 ·obtain ⟨a,v,rfl,ha,k⟩ := h
  refine ⟨_,(aqf (rqK (pv 0) (pv 1) rfl)),?_⟩
  walk_at "rd"
  exact ⟨a,_,rfl,ha,g.eqA,fun d hd=>k d hd⟩
theorem gqS (g : G K mg) : FnOk P w K mg base CX0 1 g.fqT g.eqR ["text", "signs"] mqF := by
 refine g.eqI.ok mqR (fun vs H Q E h=>?_) (fun cdv A outer s H vs Q E hr h=>?_)
 ·obtain ⟨x,y,rfl,_⟩ := h; rfl
 ·obtain ⟨x,y,rfl,hx,k⟩ := h
  refine ⟨_,(aqf (aqn (aqs (iqi (K := K) rfl rfl) rfl g.pqw PyProof.Rows.boot_all (aqa (dqu (fx := ["signs"]) (fr := [1]) rfl rfl (by decide +kernel) rfl (by decide +kernel) rfl (by decide +kernel) rfl (.cons rfl rfl rfl rfl .nil) rfl (nqw (pv 0)) (fun _ _ _=>jqf) (fun _ _ _=>(aqC rq4 (pv 0) (pv 1) (by with_unfolding_all rfl)))) aqb)))),?_⟩
  walk_at "rd"
  intro p hp
  refine pqO (z := x) (aqq hx) hp (fun c=>.bl (decide (c ∈ y.cps.toList))) (fun c hc H' R hR=>?_) (fun H' sm hp' => ?_)
  ·walk_at "rd"
   exact hR H' (Same.refl _)
  ·refine lqw.mpr ⟨x.cps.toList.map fun c=>decide (c ∈ y.cps.toList),SqL.of (by rw [hp',List.map_map]; rfl),?_⟩
   rw [List.all_map]
   exact k H' sm
theorem gqs (g : G K mg) : FnOk P w K mg base CX0 1 g.bqo g.aq9 ["thing"] gqn := by
 refine g.bq5.ok fqR (fun vs H Q E h=>?_) (fun cdv A outer s H vs Q E hr h=>?_)
 ·obtain ⟨d,v,rfl,_⟩ := h; rfl
 ·obtain ⟨d,v,rfl,hv,k⟩ := h
  refine ⟨_,(aqf (aqn (cq5 (aqs bqw rfl g.aqH aqA (aqa (pv 0) (aqa (dqs (v := .ty "int") rfl g.mqP kqX rfl) aqb))) (bqZ (lq7 (aqs bqw rfl g.aqH aqA (aqa (pv 0) (aqa (dqs (v := .ty "bool") rfl g.mqs lqQ rfl) aqb)))))))),?_⟩
  cases hv with
  | lst hp r=>walk_at "rd"; simp only [hqk hp]; walk_at "rd"; exact k
  | tup hp r=>walk_at "rd"; simp only [hqv hp]; walk_at "rd"; exact k
  | _=>walk_at "rd"; exact k
theorem hqQ (g : G K mg) : FnOk P w K mg base CX0 1 g.hqj g.fq4 ["step"] jqY := by
 refine g.gqe.ok nqA (fun vs H Q E h=>?_) (fun cdv A outer s H vs Q E hr h=>?_)
 ·obtain ⟨s,rfl,_⟩ := h; rfl
 ·obtain ⟨s,rfl,k⟩ := h
  refine ⟨_,(aqf (aqn (oqw (aqC aqK (pv 0) (aqW (v := sqp) rfl g.pq5 ⟨_,rfl⟩) (nomark _)) (bqZ (aqC aqK (pv 0) (aqW (v := k_UP) rfl g.c_UP ⟨_,rfl⟩) (nomark _)))))),?_⟩
  have d1 : Str.ofString ".." = ⟨sUp.toArray⟩ := by decide +kernel
  have d2 : Str.ofString "." = ⟨sStay.toArray⟩ := by decide +kernel
  walk_at "rd"
  rw [d1,d2]
  simp only [bq0]
  by_cases h2 : s = sStay
  ·rw [if_pos h2]
   rw [show isDot s = true by simp [isDot,h2]] at k
   exact k
  ·rw [if_neg h2]
   rw [show isDot s = decide (s = sUp) by simp [isDot,h2]] at k
   exact k
theorem hqA (g : G K mg) : FnOk P w K mg base CX0 1 g.hql g.fqY ["piece"] (nqF K) := by
 refine g.fq1.ok oqy (fun vs H Q E h=>?_) (fun cdv A outer s H vs Q E hr h=>?_)
 ·obtain ⟨c,p,rfl,_⟩ := h; rfl
 ·obtain ⟨c,p,rfl,hp,k⟩ := h
  refine ⟨_,(aqf (aqn (aqC hqX (aqp (aqe (K := K) rfl) (pv 0) aqc (fun _ _=>rfl)) aqv (nomark _)))),?_⟩
  walk_at "rd"
  refine ⟨_,_,.inr hp,c.at0,?_⟩
  refine L2.jqG.mpr ?_
  rw [gqO]
  exact k
theorem eq9 (g : G K mg) : FnOk P w K mg base CX0 1 g.fqU g.eq1 ["gap"] (jqd K) := by
 refine g.dqL.ok mqH (fun vs H Q E h=>?_) (fun cdv A outer s H vs Q E hr h=>?_)
 ·obtain ⟨c,p,rfl,_⟩ := h; rfl
 ·obtain ⟨c,p,rfl,hp,hc,k⟩ := h
  refine ⟨_,(aqf (aqn (gqc (aql aqK (aqp (aqe (K := K) rfl) (pv 0) aqc (fun _ _=>rfl)) aqv (nomark _)) (aqp (aqe (K := K) rfl) (pv 0) aqc (fun _ _=>rfl)) (aqp (aqe (K := K) rfl) (pv 0) aqc (fun _ _=>rfl))))),?_⟩
  walk_at "rd"
  refine ⟨_,_,.inr hp,c.at0,?_⟩
  refine L2.aqt.mpr ⟨_,rfl,?_⟩
  rw [bqr]
  cases c with
  | step s=>cases hc
  | part h n t=>exact ite2 (fun _=>⟨_,_,.inr hp,aqi (j := 2) rfl,k⟩) (fun z=>absurd rfl z)
  | num n=>exact ite2 (fun z=>by cases z) (fun _=>⟨_,_,.inr hp,aqi (j := 1) rfl,k⟩)
  | word n=>exact ite2 (fun z=>by cases z) (fun _=>⟨_,_,.inr hp,aqi (j := 1) rfl,k⟩)
  | gap n=>exact ite2 (fun z=>by cases z) (fun _=>⟨_,_,.inr hp,aqi (j := 1) rfl,k⟩)
  | rest n=>exact ite2 (fun z=>by cases z) (fun _=>⟨_,_,.inr hp,aqi (j := 1) rfl,k⟩)
theorem fqb (g : G K mg) : FnOk P w K mg base CX0 1 g.fqP g.eqX ["piece"] (iq5 K) := by
 refine g.dqB.ok mqS (fun vs H Q E h=>?_) (fun cdv A outer s H vs Q E hr h=>?_)
 ·obtain ⟨c,p,rfl,_⟩ := h; rfl
 ·obtain ⟨c,p,rfl,hp,k⟩ := h
  refine ⟨_,(aqf (aqn (gqc (aql aqK (aqp (aqe (K := K) rfl) (pv 0) aqc (fun _ _=>rfl)) aqv (nomark _)) (aqp (aqe (K := K) rfl) (pv 0) aqc (fun _ _=>rfl)) aqv))),?_⟩
  walk_at "rd"
  refine ⟨_,_,.inr hp,c.at0,?_⟩
  refine L2.aqt.mpr ⟨_,rfl,?_⟩
  rw [bqr]
  cases c with
  | part h n t=>exact ite2 (fun _=>⟨_,_,.inr hp,aqi (j := 1) rfl,k⟩) (fun z=>absurd rfl z)
  | _=>exact ite2 (fun z=>by cases z) (fun _=>k)
theorem eqZ (g : G K mg) : FnOk P w K mg base CX0 1 g.fqG g.eqP ["piece"] (iq6 K) := by
 refine g.dqD.ok nqa (fun vs H Q E h=>?_) (fun cdv A outer s H vs Q E hr h=>?_)
 ·obtain ⟨c,p,rfl,_⟩ := h; rfl
 ·obtain ⟨c,p,rfl,hp,k⟩ := h
  refine ⟨_,(aqf (aqn (gqc (aql aqK (aqp (aqe (K := K) rfl) (pv 0) aqc (fun _ _=>rfl)) aqv (nomark _)) (aqp (aqe (K := K) rfl) (pv 0) aqc (fun _ _=>rfl)) aqv))),?_⟩
  walk_at "rd"
  refine ⟨_,_,.inr hp,c.at0,?_⟩
  refine L2.aqt.mpr ⟨_,rfl,?_⟩
  rw [bqr]
  cases c with
  | part h n t=>exact ite2 (fun _=>⟨_,_,.inr hp,aqi (j := 3) rfl,k⟩) (fun z=>absurd rfl z)
  | _=>exact ite2 (fun z=>by cases z) (fun _=>k)
theorem lqy (g : G K mg) : FnOk P w K mg base CX0 1 g.eq3 g.dq1 ["pattern"] (lqg K) := by
 refine g.gqJ.ok iqh (fun vs H Q E h=>?_) (fun cdv A outer s H vs Q E hr h=>?_)
 ·obtain ⟨cs,xs,p,q,e,rfl,_⟩ := h; rfl
 ·obtain ⟨cs,xs,p,q,e,rfl,hp,hq,hx,hn,k⟩ := h
  refine ⟨_,(aqh (aqx (i := 1) iqh.nd rfl (Or.inl rfl) (aqp (aqe (K := K) rfl) (pv 0) (aqW (v := eq4) rfl g.dqU ⟨_,rfl⟩) (fun _ _=>rfl)))
   (aqf (aqn (cq5 (aqC lqC (aqs (aqw (K := K) rfl) rfl g.bqq PySem.boot_len (aqa (pv 1) aqb)) aqc (nomark _)) (bqZ (aqC aqK (aqp (aqe (K := K) rfl) (aqp (aqe (K := K) rfl) (pv 1) (lqm hqC aqc) (fun _ _=>rfl)) aqc (fun _ _=>rfl)) aqv (nomark _))))))),?_⟩
  walk_at "rd"
  refine ⟨_,_,.inr hp,aqi (j := 0) rfl,?_⟩
  walk_at "rd"
  refine ⟨xs,.inr hq,?_⟩
  have hl := hx.length
  by_cases h0 : cs = []
  ·subst h0
   refine ite2 (fun z=>?_) (fun _=>k)
   rw [hl] at z
   simp at z
  obtain ⟨c,hc⟩ : ∃ c,cs.getLast? = some c := ⟨_,List.getLast?_eq_some_getLast h0⟩
  have hr : hasRest cs = c.isRest := by unfold hasRest; rw [hc]
  obtain ⟨v,hv,pc,rfl,hpc⟩ := hx.last hc
  refine ite2 (fun _=>?_) (fun z=>absurd (show (0 : Int) < (xs.length : Int) by rw [hl]; have := List.length_pos_iff.mpr h0; omega) z)
  refine ⟨_,_,.inr hq,hv,?_⟩
  walk_at "rd"
  refine ⟨_,_,.inr hpc,c.at0,?_⟩
  refine L2.aqt.mpr ?_
  rw [dqQ,<- hr]
  exact k
theorem bqW (g : G K mg) : FnOk P w K mg base CX0 1 g.cqo g.bqP ["_law_script", "_law_k"] (hqG K) := by
 refine g.aq4.ok hqL (fun vs H Q E h=>?_) (fun cdv A outer s H vs Q E hr h=>?_)
 ·obtain ⟨a,ns,k,rfl,_⟩ := h; rfl
 ·obtain ⟨a,ns,i,rfl,hS,k⟩ := h
  refine ⟨_,(aqh (aqB (aql pqr (pv 1) (aqs (aqw (K := K) rfl) rfl g.bqq PySem.boot_len (aqa (pv 0) aqb)) (nomark _))
    (aqf (aqn (aqp (aqe (K := K) rfl) (pv 0) (pv 1) (fun _ _=>rfl)))) aqu)
   (aqf (aqn aqc))),?_⟩
  walk_at "rd"
  refine ⟨ns.map V.int,.inl hS,ite2 (fun h=>?_) (fun h=>?_)⟩
  ·rw [List.length_map] at h
   exact ⟨ns.map V.int,_,.inl hS,qqT (by omega),k⟩
  ·rw [List.length_map] at h
   rw [List.getD_eq_getElem?_getD,List.getElem?_eq_none (by omega)] at k
   exact k
theorem jqp (g : G K mg) : FnOk P w K mg base CX0 1 g.dqk g.cqF ["_law_cell", "_law_many"] (jqx K) := by
 refine g.eqM.ok aqD (fun vs H Q E h=>?_) (fun cdv A outer s H vs Q E hr h=>?_)
 ·obtain ⟨c,m,rfl,_⟩ := h; rfl
 ·obtain ⟨c,m,rfl,hm,k⟩ := h
  refine ⟨_,(aqh (aqx (i := 2) aqD.nd rfl (Or.inl rfl) aqv)
   (aqh (aqx (i := 3) aqD.nd rfl (Or.inl rfl) (aqr (aqz (K := K)) aqc (aqr aqN (pv 0) aqc)))
   (aqh (aqx (i := 4) aqD.nd rfl (Or.inl rfl) (aqr aqN (aqr aqM (pv 0) aqc) (pv 3)))
   (aqh (aqx (i := 5) aqD.nd rfl (Or.inl rfl) (aqL aqb))
   (aqh (cqW PassesOwn.never rfl (bqs rfl g.cq2 (aqa (pv 1) aqb)) (aqF (i := 6) aqD.nd rfl (Or.inl rfl))
   (aqh (aqx (i := 7) aqD.nd rfl (Or.inl rfl) aqv)
   (aqX (cqW PassesOwn.never rfl (bqs rfl g.cq2 (aqa (pv 3) aqb)) (aqF (i := 8) aqD.nd rfl (Or.inl rfl))
   (aqh (aqx (i := 9) aqD.nd rfl (Or.inl rfl) (aqr (aqz (K := K)) (aqr (aqz (K := K)) (aqr aqM (pv 0) (aqr (aqz (K := K)) aqc (aqr cqe (aqr cqe aqc (pv 8)) (pv 8)))) (aqr cqe aqc (pv 8))) (aqr cqe (pv 6) (aqG iqz rfl g.mqP kqX (aqa (aqC aqK (pv 8) (pv 4) (nomark _)) aqb)))))
   (aqf (aqx (i := 7) aqD.nd rfl (Or.inl rfl) (aqr (aqz (K := K)) (pv 7) (aqp (aqe (K := K) rfl) (pv 2) (aqr aqN (pv 9) aqc) (fun _ _=>rfl)))))))
   (aqf (cqh (cqx (K := K) rfl PySem.F.plainAttrs_list PySem.F.slot_list_append PySem.F.type_list_append aq2 (pv 5) (aqa (pv 7) aqb)))))))
   (aqf (aqn (pv 5)))))))),?_⟩
  have eL : Str.ofString "abcdefghijklmnopqrstuvwxyz" = ⟨smaL.toArray⟩ := by unfold smaL; simp
  rw [eL]
  walk_at "rd"
  refine ⟨by decide,⟨by decide,by decide⟩,by omega,by decide,fun p H1 n1 s1 e1=>⟨by omega,by omega,?_⟩⟩
  rw [Int.toNat_natCast]
  obtain ⟨sz,hsz,hs1,hs7⟩ : ∃ sz : Nat,1 + c % 8 = (sz : Int) /\ 1 <= sz /\ sz <= 8 := ⟨(1 + c % 8).toNat,by omega,by omega,by omega⟩
  rw [hsz]
  obtain ⟨at_,ha,hat⟩ : ∃ a : Nat,c / 8 % (sz : Int) = (a : Int) /\ a < sz := by
   have h1 := Int.emod_nonneg (c / 8) (show (sz : Int) ≠ 0 by omega)
   have h2 := Int.emod_lt_of_pos (c / 8) (show 0 < (sz : Int) by omega)
   exact ⟨(c / 8 % (sz : Int)).toNat,by omega,by omega⟩
  rw [ha]
  obtain ⟨X,hX⟩ : ∃ X : Int,X = c / (64 + 9 * (at_ : Int) * (at_ : Int)) + 5 * (at_ : Int) := ⟨_,rfl⟩
  refine cqf (fun i σ H' => ∃ (ns : List (List Nat)) (v6 v7 v8 v9 : Option V),σ = [some (.int c),some (.int (m : Int)),some (tV smaL),some (.int (sz : Int)),some (.int (at_ : Int)),some (.ref p),v6,v7,v8,v9] /\ ns.length = i /\ (∀ n ∈ ns,0 < n.length /\ n.length <= 8 /\ n.all isSma = true) /\ (∀ (k : Nat) (n : List Nat),ns[k]? = some n -> NmAt X at_ k n) /\ Same H H' /\ H' p = some (.lst (ns.map tV))) ⟨[],none,none,none,none,rfl,rfl,by simp,(fun k n h=>by cases h),s1,e1⟩ ?_ ?_
  ·rintro i σ H2 hi ⟨ns,v6,v7,v8,v9,rfl,hl,hns,hnm,s2,e2⟩
   walk_at "rd"
   refine ⟨fun σ H3=>H3 = H2 /\ ∃ (l : List Nat) (v8 v9 : Option V),l.length = sz /\ NmAt X at_ i l /\ l.all isSma = true /\ σ = [some (.int c),some (.int (m : Int)),some (tV smaL),some (.int (sz : Int)),some (.int (at_ : Int)),some (.ref p),some (.int (0 + (i : Int))),some (tV l),v8,v9],?_,?_⟩
   ·refine ⟨by omega,by omega,?_⟩
    rw [Int.toNat_natCast]
    refine cqf (fun j σ H3=>H3 = H2 /\ ∃ (l : List Nat) (v8 v9 : Option V),l.length = j /\ (at_ < j -> NmAt X at_ i l) /\ l.all isSma = true /\ σ = [some (.int c),some (.int (m : Int)),some (tV smaL),some (.int (sz : Int)),some (.int (at_ : Int)),some (.ref p),some (.int (0 + (i : Int))),some (tV l),v8,v9]) ⟨rfl,[],_,_,rfl,(fun z=>absurd z (by omega)),rfl,rfl⟩ ?_ (fun σ H3 ⟨h1,l,v8,v9,h2,h3,h4,h5⟩=>⟨h1,l,v8,v9,h2,h3 hat,h4,h5⟩)
    rintro j σ H3 hj ⟨rfl,l,v8,v9,hll,hln,hla,rfl⟩
    have hb : 0 < 64 + 9 * (0 + (j : Int)) * (0 + (j : Int)) /\ 64 + 9 * (0 + (j : Int)) * (0 + (j : Int)) < 1073741824 := by
     have h0 : 0 <= (0 + (j : Int)) * (0 + (j : Int)) := Int.mul_nonneg (by omega) (by omega)
     have h1 : (0 + (j : Int)) * (0 + (j : Int)) <= 8 * 8 := Int.mul_le_mul (by omega) (by omega) (by omega) (by omega)
     rw [Int.mul_assoc]
     omega
    walk_at "rd"
    have hc1 : CMul (0 + (i : Int)) (if 0 + (j : Int) = (at_ : Int) then 1 else 0) := .inl ⟨by omega,by omega⟩
    have hval : 0 + (j : Int) = (at_ : Int) -> (c / (64 + 9 * (0 + (j : Int)) * (0 + (j : Int))) + 5 * (0 + (j : Int)) + (0 + (i : Int)) * if 0 + (j : Int) = (at_ : Int) then 1 else 0) = X + (i : Int) := fun z=>by
     rw [if_pos z,Int.mul_one,hX,z]; omega
    obtain ⟨d,hd,hds⟩ := sqN (c / (64 + 9 * (0 + (j : Int)) * (0 + (j : Int))) + 5 * (0 + (j : Int)) + (0 + (i : Int)) * if 0 + (j : Int) = (at_ : Int) then 1 else 0)
    refine ⟨.inl ⟨by decide,by decide⟩,.inr ⟨by omega,by omega⟩,hb,.inl ⟨by decide,by decide⟩,hc1,by decide,d,by decide +kernel,hd,aqq (by omega),l ++ [d],_,_,by rw [List.length_append,List.length_singleton,hll],fun z=>?_,by rw [List.all_append,hla]; simp [hds],rfl,rfl,rfl⟩
    by_cases ej : j = at_
    ·rw [hval (by omega)] at hd
     exact ⟨d,by rw [List.getElem?_append_right (by omega),hll,ej,Nat.sub_self]; rfl,hd⟩
    ·exact (hln (by omega)).app
   rintro σ H3 ⟨rfl,l,v8,v9,hll,hln,hla,rfl⟩
   walk_at "rd"
   refine ⟨⟨_,.of e2⟩,_,e2,by rw [List.length_map]; exact Nat.lt_of_le_of_lt (show ns.length <= 26 by omega) (by decide),ns ++ [l],_,_,_,_,⟨rfl,rfl,rfl,rfl⟩,by rw [List.length_append,List.length_singleton,hl],fun n hn=>?_,fun k n hk=>?_,kqD n1 s2,by rw [aqj,List.map_append]; rfl⟩
   ·rcases List.mem_append.mp hn with z | z
    ·exact hns n z
    ·rw [List.mem_singleton.mp z]; exact ⟨by omega,by omega,hla⟩
   ·by_cases hk2 : k < ns.length
    ·rw [List.getElem?_append_left hk2] at hk
     exact hnm k n hk
    ·rw [List.getElem?_append_right (by omega)] at hk
     have hk3 : k - ns.length = 0 := by
      cases hh : k - ns.length with
      | zero=>rfl
      | succ z=>rw [hh] at hk; cases hk
     rw [hk3] at hk
     cases hk
     rw [show k = i by omega]
     exact hln
  ·rintro σ H2 ⟨ns,v6,v7,v8,v9,rfl,hl,hns,hnm,s2,e2⟩
   walk_at "rd"
   exact k ns p H2 hl hns (pqR hnm (by omega)) s2 e2
theorem jqt (g : G K mg) : FnOk P w K mg base CX0 1 g.dqp g.cqH ["_law_cell"] (jqT K) := by
 refine g.eqt.ok bqQ (fun vs H Q E h=>?_) (fun cdv A outer s H vs Q E hr h=>?_)
 ·obtain ⟨c,rfl,_⟩ := h; rfl
 ·obtain ⟨c,rfl,k⟩ := h
  refine ⟨_,(aqh (aqx (i := 1) bqQ.nd rfl (Or.inl rfl) aqv)
   (aqh (aqx (i := 2) bqQ.nd rfl (Or.inl rfl) aqv)
   (aqh (cqW PassesOwn.never rfl (bqs rfl g.cq2 (aqa aqc aqb)) (aqF (i := 3) bqQ.nd rfl (Or.inl rfl))
   (aqf (aqx (i := 2) bqQ.nd rfl (Or.inl rfl) (aqr (aqz (K := K)) (pv 2) (aqp (aqe (K := K) rfl) (pv 1) (aqr aqN (aqr aqM (pv 0) (aqr (aqz (K := K)) (aqr cqe (pv 3) aqc) aqc)) (aqs (aqw (K := K) rfl) rfl g.bqq PySem.boot_len (aqa (pv 1) aqb))) (fun _ _=>rfl))))))
   (aqf (aqn (aqp (aqe (K := K) rfl) (aqL (aqa (pv 2) (aqa (aqr (aqz (K := K)) (pv 2) aqv) (aqa aqv (aqa (aqr (aqz (K := K)) aqv (pv 2)) aqb))))) (aqr aqN (aqr aqM (pv 0) aqc) aqc) (fun _ _=>rfl))))))),?_⟩
  walk_at "rd"
  refine ⟨by decide,by decide,?_⟩
  have eS : Str.ofString " !\"#$&'()*+,-./0123456789:;<=>?@ABCDEFGHIJKLMNOPQRSTUVWXYZ[\\]^_`abcdefghijklmnopqrstuvwxyz{|}~" = ⟨SG.toArray⟩ := by decide +kernel
  have eD : Str.ofString "." = ⟨[46].toArray⟩ := by decide +kernel
  have eB : Str.ofString "b7" = ⟨[98,55].toArray⟩ := by decide +kernel
  have eA : Str.ofString "a1." = ⟨[97,49,46].toArray⟩ := by decide +kernel
  have hsl : SG.length = 94 := by decide +kernel
  rw [eS,eD,eB,eA]
  refine cqf (fun i σ H' => H' = H /\ ∃ (l : List Nat) (v3 : Option V),σ = [some (.int c),some (.str ⟨SG.toArray⟩),some (tV l),v3] /\ l.length = i /\ ∀ x ∈ l,isSg x = true) ⟨rfl,[],none,rfl,rfl,fun x hx=>by cases hx⟩ ?_ ?_
  ·rintro i σ H1 hi ⟨rfl,l,v3,rfl,hl,hs⟩
   have hi3 : i < 3 := hi
   obtain ⟨d,hd,hda⟩ := nqy SG (c / ((0 + (i : Int)) * 97 + 1)) (SG.length : Int) (by omega) (by omega)
   walk_at "rd"
   refine ⟨.inr ⟨by decide,by decide⟩,⟨by omega,by omega⟩,aqq (by omega),by omega,d,aqq (by omega),hda,aqq (by omega),l ++ [d],_,⟨rfl,rfl⟩,by rw [List.length_append,List.length_singleton,hl],fun x hx=>?_⟩
   rcases List.mem_append.mp hx with z | z
   ·exact hs x z
   ·rw [List.mem_singleton.mp z]; exact pq6.mp hd
  ·rintro σ H1 ⟨rfl,l,v3,rfl,hl,hs⟩
   have hl3 : l.length = 3 := hl
   walk_at "rd"
   refine ⟨aqq (by omega),aqq (by omega),by decide,fun p H2 n2 s2 hp2=>⟨⟨by decide,by decide⟩,by decide,?_⟩⟩
   obtain ⟨v,hv,hat⟩ := qqt [V.str ⟨l.toArray⟩,V.str ⟨(l ++ [46]).toArray⟩,V.str ⟨[97,49,46].toArray⟩,V.str ⟨([98,55] ++ l).toArray⟩] (c / 9409) 4 (by decide) (by simp)
   refine ⟨_,_,.inl (.of hp2),hat,?_⟩
   have sg1 : ∀ x ∈ ([46,97,49,98,55] : List Nat),isSg x = true := by decide
   simp only [List.mem_cons,List.not_mem_nil,or_false] at hv
   rcases hv with rfl | rfl | rfl | rfl
   ·exact k l H2 (by omega) (by omega) hs s2
   ·refine k (l ++ [46]) H2 (by simp) (by simp; omega) (fun x hx=>?_) s2
    rcases List.mem_append.mp hx with z | z
    ·exact hs x z
    ·exact sg1 x (by rw [List.mem_singleton.mp z]; decide)
   ·exact k [97,49,46] H2 (by decide) (by decide) (by decide) s2
   ·refine k ([98,55] ++ l) H2 (by simp) (by simp; omega) (fun x hx=>?_) s2
    rcases List.mem_append.mp hx with z | z
    ·simp only [List.mem_cons,List.not_mem_nil,or_false] at z
     rcases z with rfl | rfl <;> decide
    ·exact hs x z
theorem cqY (g : G K mg) : FnOk P w K mg base CX0 1 g.eq8 g.eqb ["_law_cell", "_law_signs_here", "_law_many"] lqc := by
 refine g.bq2.ok eqa (fun vs H Q E h=>?_) (fun cdv A outer s H vs Q E hr h=>?_)
 ·obtain ⟨c,gg,m,rfl,_⟩ := h; rfl
 ·obtain ⟨c,gg,m,rfl,hg0,hg1,hm,k⟩ := h
  refine ⟨_,(aqh (aqx (i := 3) eqa.nd rfl (Or.inl rfl) aqv)
   (aqh (cqW PassesOwn.never rfl (bqs rfl g.cq2 (aqa (pv 2) aqb)) (aqF (i := 4) eqa.nd rfl (Or.inl rfl))
   (aqf (aqx (i := 3) eqa.nd rfl (Or.inl rfl) (aqr (hqN (K := K) rfl) (pv 3) (aqp (aqe (K := K) rfl) (pv 1) (aqr aqN (aqr aqM (pv 0) (aqr (hqN (K := K) rfl) (aqr cqe (aqr cqe aqc (pv 4)) (pv 4)) aqc)) (aqs (aqw (K := K) rfl) rfl g.bqq PySem.boot_len (aqa (pv 1) aqb))) (fun _ _=>rfl))))))
   (aqf (aqn (pv 3))))),?_⟩
  walk_at "rd"
  refine ⟨by omega,by omega,?_⟩
  rw [Int.toNat_natCast]
  refine cqf (fun i σ H' => H' = H /\ ∃ (l : List Nat) (v4 : Option V),σ = [some (.int c),some (tV gg),some (.int (m : Int)),some (tV l),v4] /\ l.length = i /\ ∀ x ∈ l,x ∈ gg) ⟨rfl,[],none,rfl,rfl,fun x hx=>by cases hx⟩ ?_ ?_
  ·rintro i σ H1 hi ⟨rfl,l,v4,rfl,hl,hs⟩
   have hb : 0 < 5 * (0 + (i : Int)) * (0 + (i : Int)) + 1 /\ 5 * (0 + (i : Int)) * (0 + (i : Int)) + 1 < 1073741824 := by
    have h0 : 0 <= (0 + (i : Int)) * (0 + (i : Int)) := Int.mul_nonneg (by omega) (by omega)
    have h1 : (0 + (i : Int)) * (0 + (i : Int)) <= 100 * 100 := Int.mul_le_mul (by omega) (by omega) (by omega) (by omega)
    rw [Int.mul_assoc]
    omega
   obtain ⟨d,hd,hda⟩ := nqy gg (c / (5 * (0 + (i : Int)) * (0 + (i : Int)) + 1)) (gg.length : Int) (by omega) (by omega)
   walk_at "rd"
   refine ⟨.inl ⟨by decide,by decide⟩,.inr ⟨by omega,by omega⟩,hb,aqq (by omega),by omega,d,aqq (by omega),hda,aqq (by omega),l ++ [d],_,⟨rfl,rfl⟩,by rw [List.length_append,List.length_singleton,hl],fun x hx=>?_⟩
   rcases List.mem_append.mp hx with z | z
   ·exact hs x z
   ·rw [List.mem_singleton.mp z]; exact hd
  ·rintro σ H1 ⟨rfl,l,v4,rfl,hl,hs⟩
   walk_at "rd"
   exact k l hl hs
theorem gqM (g : G K mg) : FnOk P w K mg base CX0 1 g.bqC g.bqh ["_law_piece_here", "_law_step_here"] (gqG K) := by
 refine g.cqt.ok gqu (fun vs H Q E h=>?_) (fun cdv A outer s H vs Q E hr h=>?_)
 ·obtain ⟨c,p,s,rfl,_⟩ := h; rfl
 ·obtain ⟨c,p,s,rfl,hp,hok,h0,hl,hs,k⟩ := h
  refine ⟨_,(aqh (aqB (PW.pt (eqn (aql aqK (pv 1) aqv (nomark _)) (cq4 (aql aqK (pv 1) aqv (nomark _)))))
    (aqf (aqn cqV)) aqu)
   (aqh (aqB (aql aqK (aqp (aqe (K := K) rfl) (pv 0) aqc (fun _ _=>rfl)) aqv (nomark _))
    (aqf (aqn (aqC aqK (pv 1) (aqp (aqe (K := K) rfl) (pv 0) aqc (fun _ _=>rfl)) (nomark _)))) aqu)
   (aqh (aqB (aql aqK (aqp (aqe (K := K) rfl) (pv 0) aqc (fun _ _=>rfl)) aqv (nomark _))
    (aqh (aqB (aql lqR (aqs (aqw (K := K) rfl) rfl g.bqq PySem.boot_len (aqa (pv 1) aqb)) (aqr (aqz (K := K)) (aqs (aqw (K := K) rfl) rfl g.bqq PySem.boot_len (aqa (aqp (aqe (K := K) rfl) (pv 0) aqc (fun _ _=>rfl)) aqb)) (aqs (aqw (K := K) rfl) rfl g.bqq PySem.boot_len (aqa (aqp (aqe (K := K) rfl) (pv 0) aqc (fun _ _=>rfl)) aqb))) (nomark _))
    (aqf (aqn cqV)) aqu)
   (aqf (aqn (cq5 (cqx (K := K) rfl PySem.F.plainAttrs_str PySem.F.slot_str_startswith PySem.F.type_str_startswith kqf (pv 1) (aqa (aqp (aqe (K := K) rfl) (pv 0) aqc (fun _ _=>rfl)) aqb)) (bqZ (cqx (K := K) rfl PySem.F.plainAttrs_str PySem.F.slot_str_endswith PySem.F.type_str_endswith nqr (pv 1) (aqa (aqp (aqe (K := K) rfl) (pv 0) aqc (fun _ _=>rfl)) aqb))))))) aqu)
   (aqh (aqB (aql aqK (aqp (aqe (K := K) rfl) (pv 0) aqc (fun _ _=>rfl)) aqv (nomark _))
    (aqh (aqB (PW.pt (eqn (aql (hq6 hr.units) (dqu (fx := []) (fr := []) rfl rfl (by decide +kernel) rfl (by decide +kernel) rfl (by decide +kernel) rfl .nil rfl (nqw (pv 1)) (fun _ _ _=>(fq9 (aql kq0 (pv 0) aqv (by with_unfolding_all rfl)))) (fun _ _ _=>(pv 0))) (aqL aqb) (nomark _)) (cq4 (aql lqC (aqs (aqw (K := K) rfl) rfl g.bqq PySem.boot_len (aqa (pv 1) aqb)) aqc (nomark _)))))
    (aqf (aqn cqV)) aqu)
   (aqf (aqn (oqw (aqC aqK (pv 1) aqv (nomark _)) (bqZ (aqC hqX (aqp (aqe (K := K) rfl) (pv 1) aqc (fun _ _=>rfl)) aqv (nomark _))))))) aqu)
   (aqh (aqB (aql aqK (aqp (aqe (K := K) rfl) (pv 0) aqc (fun _ _=>rfl)) aqv (nomark _))
    (aqf (aqn (cq5 (aqC lqR (aqs (aqw (K := K) rfl) rfl g.bqq PySem.boot_len (aqa (pv 1) aqb)) aqc (nomark _)) (bqZ (aqC (iqX hr.units) (dqu (fx := []) (fr := []) rfl rfl (by decide +kernel) rfl (by decide +kernel) rfl (by decide +kernel) rfl .nil rfl (nqw (pv 1)) (fun _ _ _=>(fq9 (aql kq0 (pv 0) aqv (by with_unfolding_all rfl)))) (fun _ _ _=>(pv 0))) (aqL aqb) (nomark _)))))) aqu)
   (aqf (aqn cqV))))))),?_⟩
  have eF : Str.ofString "0123456789" = ⟨fgS.toArray⟩ := by unfold fgS; simp
  have eS : Str.ofString "abcdefghijklmnopqrstuvwxyz" = ⟨smaL.toArray⟩ := by unfold smaL; simp
  have e0 : Str.ofString "0" = ⟨[48].toArray⟩ := by decide +kernel
  have e1 : Str.ofString "." = ⟨sStay.toArray⟩ := by decide +kernel
  have e2 : Str.ofString ".." = ⟨sUp.toArray⟩ := by decide +kernel
  rw [eF,eS,e0,e1,e2]
  walk_at "rd"
  have dot : isDot s = true -> Q (.bl false) H := fun hd=>by
   have e : fitsM c s = false := by unfold fitsM; rw [hd]; rfl
   rw [e] at k
   exact k H (Same.refl _)
  refine ite2 (fun h1=>dot (by unfold isDot; rw [decide_eq_true (bq0.mp h1)]; simp)) (fun h1=>ite2 (fun h2=>dot (by unfold isDot; rw [decide_eq_true (bq0.mp h2)]; rfl)) (fun h2=>?_))
  have hd : isDot s = false := bq3.mpr ⟨fun z=>h2 (bq0.mpr z),fun z=>h1 (bq0.mpr z)⟩
  refine ⟨_,_,.inr hp,c.at0,?_⟩
  refine L2.aqt.mpr ⟨_,rfl,?_⟩
  rw [gqO]
  cases c with
  | step w =>
   refine ite2 (fun _=>⟨_,_,.inr hp,aqi (j := 1) rfl,?_⟩) (fun z=>absurd rfl z)
   refine L2.aqt.mpr ?_
   have e : fitsM (.step w) s = decide ((⟨s.toArray⟩ : Str) = ⟨w.toArray⟩) := by
    unfold fitsM; rw [hd]
    show decide (s = w) = _
    exact decide_eq_decide.mpr bq0.symm
   rw [<- e]
   exact k H (Same.refl _)
  | part h n t =>
   refine ite2 (fun z=>by cases z) (fun _=>⟨_,_,.inr hp,Pc.at0 _,?_⟩)
   refine L2.aqt.mpr ⟨_,rfl,?_⟩
   rw [bqr]
   refine ite2 (fun _=>?_) (fun z=>absurd rfl z)
   have e : fitsM (.part h n t) s = partB h t s := by unfold fitsM; rw [hd]; rfl
   rw [e] at k
   have hh := hok.1
   have ht := hok.2.1
   refine ⟨aqq (by omega),_,_,.inr hp,aqi (j := 1) rfl,?_⟩
   walk_at "rd"
   refine ⟨aqq (by omega),_,_,.inr hp,aqi (j := 3) rfl,?_⟩
   walk_at "rd"
   refine ⟨aqq (by omega),?_⟩
   have kp : partB h t s = (decide (s.take h.length = h) && (decide (s.drop (s.length - t.length) = t) && decide (h.length + t.length < s.length))) := rfl
   rw [kp] at k
   have k' := k H (Same.refl _)
   refine ite2 (fun hle=>?_) (fun hle=>?_)
   ·rw [decide_eq_false (show ¬ h.length + t.length < s.length by omega),Bool.and_false,Bool.and_false] at k'
    exact k'
   rw [decide_eq_true (show h.length + t.length < s.length by omega),Bool.and_true] at k'
   refine ⟨_,_,.inr hp,aqi (j := 1) rfl,?_⟩
   show rStart1 (tV s) [tV h] H _
   rw [L2.lqO]
   refine ⟨_,rfl,ite2 (fun ha=>?_) (fun ha=>?_)⟩
   ·refine ⟨_,_,.inr hp,aqi (j := 3) rfl,?_⟩
    show rEnd1 (tV s) [tV t] H _
    rw [L2.lqV]
    rw [ha,Bool.true_and] at k'
    exact k'
   ·rw [(Bool.not_eq_true _).mp ha] at k'
    exact k'
  | num n =>
   refine ite2 (fun z=>by cases z) (fun _=>⟨_,_,.inr hp,Pc.at0 _,?_⟩)
   refine L2.aqt.mpr ⟨_,rfl,?_⟩
   rw [bqr]
   refine ite2 (fun z=>by cases z) (fun _=>⟨_,_,.inr hp,Pc.at0 _,?_⟩)
   refine L2.aqt.mpr ⟨_,rfl,?_⟩
   rw [dqy]
   refine ite2 (fun _=>?_) (fun z=>absurd rfl z)
   have e : fitsM (.num n) s = numB s := by unfold fitsM; rw [hd]; rfl
   rw [e] at k
   intro p1 hp1
   refine iqY (z := ⟨s.toArray⟩) (aqq (by show s.length <= 100000; omega)) hp1 (fun c=>!decide (c ∈ fgS)) (fun c=>V.str ⟨#[c]⟩) (fun c hc H' R hR=>?_) (fun c hc H' R hR=>?_) (fun H1 s1 e1=>?_)
   ·walk_at "rd"
    exact hR H' (Same.refl _)
   ·walk_at "rd"
    exact hR H' (Same.refl _)
   refine ⟨by decide,fun p2 H2 n2 s2 e2=>?_⟩
   have hf : ∀ c ∈ s.filter (fun c=>!decide (c ∈ fgS)),isSg c = true := fun c hc=>hs c (List.mem_filter.mp hc).1
   refine ⟨.list ((s.filter fun c=>!decide (c ∈ fgS)).map fun c=>st [c]),.list [],.lst (s2 _ _ e1) (gqW _),.lst e2 .nil,jqa hf,by decide,_,rfl,?_⟩
   have em : ((s.filter fun c=>!decide (c ∈ fgS)).map fun c=>st [c]).isEmpty = s.all isFig := by
    rw [<- oq2]; cases s.filter (fun c=>!decide (c ∈ fgS)) <;> rfl
   rw [eq7,em]
   have k' := k H2 (s1.trans s2)
   refine ite2 (fun h1=>?_) (fun h1=>?_)
   ·have : numB s = false := by unfold numB; rw [show s.all isFig = false by simpa using h1]; simp
    rw [this] at k'
    exact k'
   have hall : s.all isFig = true := by simpa using h1
   refine ⟨aqq (by omega),ite2 (fun h2=>?_) (fun h2=>?_)⟩
   ·have : numB s = false := by unfold numB; rw [decide_eq_false (show ¬ s.length <= 60 by omega)]; simp
    rw [this] at k'
    exact k'
   have en : numB s = (decide (s = [48]) || !decide (s.head? = some 48)) := by
    unfold numB
    rw [decide_eq_true (show 1 <= s.length by omega),decide_eq_true (show s.length <= 60 by omega),hall]
    rfl
   rw [en] at k'
   have e48 : ∀ l : List Nat,((⟨l.toArray⟩ : Str) = ⟨#[48]⟩) ↔ l = [48] := fun l=>by
    rw [show (⟨#[48]⟩ : Str) = ⟨[48].toArray⟩ from rfl,bq0]
   refine ite2 (fun h3=>?_) (fun h3=>?_)
   ·rw [decide_eq_true ((e48 s).mp h3)] at k'
    exact k'
   ·rw [decide_eq_false (fun z=>h3 ((e48 s).mpr z))] at k'
    cases s with
    | nil=>simp at h0
    | cons c r =>
     refine ⟨c,aqq (by simp at hl ⊢; omega),aqi (j := 0) rfl,?_⟩
     have e5 : decide ((⟨#[c]⟩ : Str) = ⟨#[48]⟩) = decide ((c :: r).head? = some 48) := decide_eq_decide.mpr (by
      rw [show (⟨#[c]⟩ : Str) = ⟨[c].toArray⟩ from rfl,e48]; simp)
     rw [e5]
     exact k'
  | word n =>
   refine ite2 (fun z=>by cases z) (fun _=>⟨_,_,.inr hp,Pc.at0 _,?_⟩)
   refine L2.aqt.mpr ⟨_,rfl,?_⟩
   rw [bqr]
   refine ite2 (fun z=>by cases z) (fun _=>⟨_,_,.inr hp,Pc.at0 _,?_⟩)
   refine L2.aqt.mpr ⟨_,rfl,?_⟩
   rw [dqy]
   refine ite2 (fun z=>by cases z) (fun _=>⟨_,_,.inr hp,Pc.at0 _,?_⟩)
   refine L2.aqt.mpr ⟨_,rfl,?_⟩
   rw [fqE]
   refine ite2 (fun _=>?_) (fun z=>absurd rfl z)
   have e : fitsM (.word n) s = wordB s := by unfold fitsM; rw [hd]; rfl
   rw [e] at k
   refine ⟨aqq (by omega),ite2 (fun h2=>?_) (fun h2=>?_)⟩
   ·intro p1 hp1
    refine iqY (z := ⟨s.toArray⟩) (aqq (by show s.length <= 100000; omega)) hp1 (fun c=>!decide (c ∈ smaL)) (fun c=>V.str ⟨#[c]⟩) (fun c hc H' R hR=>?_) (fun c hc H' R hR=>?_) (fun H2 s2 e2=>?_)
    ·walk_at "rd"
     exact hR H' (Same.refl _)
    ·walk_at "rd"
     exact hR H' (Same.refl _)
    refine ⟨by decide,fun p3 H3 n3 s3 e3=>?_⟩
    have hf : ∀ c ∈ s.filter (fun c=>!decide (c ∈ smaL)),isSg c = true := fun c hc=>hs c (List.mem_filter.mp hc).1
    refine ⟨.list ((s.filter fun c=>!decide (c ∈ smaL)).map fun c=>st [c]),.list [],.lst (s3 _ _ e2) (gqW _),.lst e3 .nil,jqa hf,by decide,?_⟩
    have em : ((s.filter fun c=>!decide (c ∈ smaL)).map fun c=>st [c]).isEmpty = s.all isSma := by
     rw [<- oqW]; cases s.filter (fun c=>!decide (c ∈ smaL)) <;> rfl
    rw [eq7,em]
    have k' := k H3 (s2.trans s3)
    have : wordB s = s.all isSma := by unfold wordB; rw [decide_eq_true (show 1 <= s.length by omega),decide_eq_true (show s.length <= 60 by omega)]; rfl
    rw [this] at k'
    exact k'
   ·have : wordB s = false := by unfold wordB; rw [decide_eq_false (show ¬ s.length <= 60 by omega)]; simp
    rw [this] at k
    exact k H (Same.refl _)
  | gap n =>
   refine ite2 (fun z=>by cases z) (fun _=>⟨_,_,.inr hp,Pc.at0 _,?_⟩)
   refine L2.aqt.mpr ⟨_,rfl,?_⟩
   rw [bqr]
   refine ite2 (fun z=>by cases z) (fun _=>⟨_,_,.inr hp,Pc.at0 _,?_⟩)
   refine L2.aqt.mpr ⟨_,rfl,?_⟩
   rw [dqy]
   refine ite2 (fun z=>by cases z) (fun _=>⟨_,_,.inr hp,Pc.at0 _,?_⟩)
   refine L2.aqt.mpr ⟨_,rfl,?_⟩
   rw [fqE]
   have e : fitsM (.gap n) s = true := by unfold fitsM; rw [hd]; rfl
   rw [e] at k
   exact ite2 (fun z=>by cases z) (fun _=>k H (Same.refl _))
  | rest n =>
   refine ite2 (fun z=>by cases z) (fun _=>⟨_,_,.inr hp,Pc.at0 _,?_⟩)
   refine L2.aqt.mpr ⟨_,rfl,?_⟩
   rw [bqr]
   refine ite2 (fun z=>by cases z) (fun _=>⟨_,_,.inr hp,Pc.at0 _,?_⟩)
   refine L2.aqt.mpr ⟨_,rfl,?_⟩
   rw [dqy]
   refine ite2 (fun z=>by cases z) (fun _=>⟨_,_,.inr hp,Pc.at0 _,?_⟩)
   refine L2.aqt.mpr ⟨_,rfl,?_⟩
   rw [fqE]
   have e : fitsM (.rest n) s = true := by unfold fitsM; rw [hd]; rfl
   rw [e] at k
   exact ite2 (fun z=>by cases z) (fun _=>k H (Same.refl _))
theorem iqM (g : G K mg) : FnOk P w K mg base CX0 1 g.cqB g.cqp ["_law_found"] (iqK K) := by
 refine g.dq7.ok iqS (fun vs H Q E h=>?_) (fun cdv A outer s H vs Q E hr h=>?_)
 ·obtain ⟨r,t,a,b,w,rfl,_⟩ := h; rfl
 ·obtain ⟨r,t,a,b,w,rfl,hr1,ht1,hn,hw,k⟩ := h
  refine ⟨_,(aqh (aqB (PW.pt (eqn (bqG (bqc (aqs bqw rfl g.aqH aqA (aqa (pv 0) (aqa (dqs (v := .ty "tuple") rfl g.eqB dq0 rfl) aqb))))) (cq4 (aql hqX (aqs (aqw (K := K) rfl) rfl g.bqq PySem.boot_len (aqa (pv 0) aqb)) aqc (nomark _)))))
    (aqf (aqn cqV)) aqu)
   (aqh (aqB (PW.pt (eqn (bqG (bqc (aqs bqw rfl g.aqH aqA (aqa (aqp (aqe (K := K) rfl) (pv 0) aqc (fun _ _=>rfl)) (aqa (dqs (v := .ty "bool") rfl g.mqs lqQ rfl) aqb))))) (eqn (bqG (bqc (aqs bqw rfl g.aqH aqA (aqa (aqp (aqe (K := K) rfl) (pv 0) aqc (fun _ _=>rfl)) (aqa (dqs (v := .ty "tuple") rfl g.eqB dq0 rfl) aqb))))) (cq4 (bqG (bqc (aqs bqw rfl g.aqH aqA (aqa (aqp (aqe (K := K) rfl) (pv 0) aqc (fun _ _=>rfl)) (aqa (dqs (v := .ty "bool") rfl g.mqs lqQ rfl) aqb)))))))))
    (aqf (aqn cqV)) aqu)
   (aqf (aqn (aqC (iqX hr.units) (dqu (fx := []) (fr := []) rfl rfl (by decide +kernel) rfl (by decide +kernel) rfl (by decide +kernel) rfl .nil rfl (gqR (K := K) rfl (aqp (aqe (K := K) rfl) (pv 0) aqc (fun _ _=>rfl))) (fun _ _ _=>(fq9 (PW.pt (eqn (bqG (bqc (aqs bqw rfl g.aqH aqA (aqa (pv 0) (aqa (dqs (v := .ty "str") rfl g.nqb kqT rfl) aqb))))) (cq4 (aql aqK (pv 0) aqv (nomark _))))))) (fun _ _ _=>(pv 0))) (aqL aqb) (nomark _)))))),?_⟩
  walk_at "rd"
  have e0 : Str.ofString "" = ⟨([] : List Nat).toArray⟩ := by decide +kernel
  have kt : ∀ {q : Addr} {xs : List V},H q = some (.tup xs) -> kindV (.ref q) H = some "tuple" := fun {q xs} h=>by simp only [kindV,h]
  refine ⟨_,kt hr1,ite2 (fun z=>absurd z (by decide)) (fun _=>⟨_,.inr (.of hr1),ite2 (fun z=>absurd rfl z) (fun _=>⟨_,_,.inr (.of hr1),aqi (j := 0) rfl,_,rfl,?_⟩)⟩)⟩
  refine ite2 (fun z=>absurd z (by decide)) (fun _=>⟨_,_,.inr (.of hr1),aqi (j := 1) rfl,_,kt ht1,ite2 (fun z=>absurd z (by decide)) (fun _=>⟨_,_,.inr (.of hr1),aqi (j := 2) rfl,_,rfl,ite2 (fun z=>absurd z (by decide)) (fun _=>?_)⟩)⟩)
  refine ⟨_,_,.inr (.of hr1),aqi (j := 1) rfl,t,rfl,⟨_,.of ht1⟩,fun l n1=>?_⟩
  refine nqI (fun _=>false) (fun x=>x) (.of ht1) (by rw [List.length_map]; exact aqq (by omega)) n1 (fun i x hx H1 R s1 hR=>?_) (fun i x hx hf H1 T s1 hT=>by cases hf) (fun H1 s1 hl=>?_)
  ·rw [List.getElem?_map] at hx
   obtain ⟨s,hs,rfl⟩ := Option.map_eq_some_iff.mp hx
   have hsn := hw s (List.mem_of_getElem? hs)
   walk_at "rd"
   have : decide ((⟨s.toArray⟩ : Str) = ⟨#[]⟩) = false := decide_eq_false (fun z=>hsn (bq0.mp (show (⟨s.toArray⟩ : Str) = ⟨([] : List Nat).toArray⟩ from z)))
   rw [this]
   exact hR H1 (Same.refl _)
  ·refine ⟨by decide,fun p4 H4 n4 s4 hp4=>?_⟩
   have hl : H1 l = some (.lst []) := by rw [hl]; simp
   refine ⟨.list [],.list [],.lst (s4 _ _ hl) .nil,.lst hp4 .nil,by decide,by decide,?_⟩
   exact k H4 (s1.trans s4)
theorem iqL (g : G K mg) : FnOk P w K mg base CX0 1 g.cqI g.cql ["_law_pattern_here", "_law_way_here"] (iqN K) := by
 refine g.dq4.ok aq7 (fun vs H Q E h=>?_) (fun cdv A outer s H vs Q E hr h=>?_)
 ·obtain ⟨cs,e,p,w,v,rfl,_⟩ := h; rfl
 ·obtain ⟨cs,e,p,⟨wr,ss,we⟩,v,rfl,⟨q,xs,hp,hq,hx⟩,hcl,hok,hnd,⟨pw,pt,rfl,hw,ht⟩,⟨hsz,hss⟩,hf,k⟩ := h
  refine ⟨_,(aqX (aqx (i := 2) aq7.nd rfl (Or.inl rfl) pqF)
   (aqh (cqW PassesOwn.never rfl (oqH (K := K) rfl rfl g.cqX (aqa (aqp (aqe (K := K) rfl) (pv 0) aqc (fun _ _=>rfl)) aqb)) (gqL (n := 2) (K := K) rfl rfl (aq0 (aqF (i := 3) aq7.nd rfl (Or.inl rfl)) (aq0 (aqF (i := 4) aq7.nd rfl (Or.inl rfl)) fqB)))
   (aqh (aqx (i := 5) aq7.nd rfl (Or.inl rfl) (aqp (aqe (K := K) rfl) (aqp (aqe (K := K) rfl) (pv 1) aqc (fun _ _=>rfl)) (pv 3) (fun _ _=>rfl)))
   (aqf (aqB (aql aqK (aqp (aqe (K := K) rfl) (pv 4) aqc (fun _ _=>rfl)) aqv (nomark _))
    (aqh (aqx (i := 6) aq7.nd rfl (Or.inl rfl) (aqr mqi (aqs (aqw (K := K) rfl) rfl g.bqq PySem.boot_len (aqa (pv 5) aqb)) (aqs (aqw (K := K) rfl) rfl g.bqq PySem.boot_len (aqa (aqp (aqe (K := K) rfl) (pv 4) aqc (fun _ _=>rfl)) aqb))))
   (aqf (lqo hr.units1 (pv 2) (aqp (aqe (K := K) rfl) (pv 4) aqc (fun _ _=>rfl)) (dqq (nq7 (K := K) rfl) (pv 5) (cqs (aqs (aqw (K := K) rfl) rfl g.bqq PySem.boot_len (aqa (aqp (aqe (K := K) rfl) (pv 4) aqc (fun _ _=>rfl)) aqb))) (cqs (pv 6))) rfl))) (aqf (aqB (aql aqK (aqp (aqe (K := K) rfl) (pv 4) aqc (fun _ _=>rfl)) aqv (nomark _))
    (aqf (lqo hr.units1 (pv 2) (aqp (aqe (K := K) rfl) (pv 4) aqc (fun _ _=>rfl)) (aqG (cqQ (K := K) rfl) rfl g.gqX fqA (aqa (dqq lqT (aqp (aqe (K := K) rfl) (pv 1) aqc (fun _ _=>rfl)) (cqs (pv 3)) fqq) aqb)) rfl)) (aqf (aqB (aql hqX (aqp (aqe (K := K) rfl) (pv 4) aqc (fun _ _=>rfl)) aqv (nomark _))
    (aqf (lqo hr.units1 (pv 2) (aqp (aqe (K := K) rfl) (pv 4) aqc (fun _ _=>rfl)) (pv 5) rfl)) aqu))))))))
   (aqf (aqn (pv 2))))),?_⟩
  dsimp only at hw ht hsz hss hf k
  walk_at "rd"
  have hxl := hx.length
  have hle := (iqo hf).2.2.2.1
  have hml : (ss.map tV).length = ss.length := List.length_map ..
  have keyV : ∀ n : List Nat,kV (Sum.inr (⟨n.toArray⟩ : Str)) = tV n := fun n=>rfl
  have kinj : ∀ {a b : List Nat},(Sum.inr (⟨a.toArray⟩ : Str) : Key) = Sum.inr (⟨b.toArray⟩ : Str) -> a = b := fun {a b} h=>bq0.mp (Sum.inr.inj h)
  refine ⟨fun σ H1=>Same H H1 /\ ∃ d : Addr,σ = [some (.ref p),some (.ref pw),some (.ref d),none,none,none,none] /\ H d = none /\ H1 d = some (.dK []),fun d n1=>⟨aqR n1,d,rfl,n1,aqj⟩,?_⟩
  rintro σ H1 ⟨s1,d,rfl,hdn,hd⟩
  walk_at "rd"
  refine ⟨_,_,.inr (.of (s1 _ _ hp)),aqi (j := 0) rfl,q,xs,rfl,.of (s1 _ _ hq),?_⟩
  refine kq9 (fun i σ H' => Same H H' /\ ∃ (kvs : List (Key × V)) (v3 v4 v5 v6 : Option V),σ = [some (.ref p),some (.ref pw),some (.ref d),v3,v4,v5,v6] /\ H' d = some (.dK kvs) /\ kvs.length <= i /\ ∀ (j : Nat) (c : Pc),j < i -> cs[j]? = some c -> c.isStep = false -> ∃ v,valV kvs (Sum.inr (⟨c.name.toArray⟩ : Str)) = some v /\ VlV H' (btM c (ss.drop j)) v) ⟨s1,[],none,none,none,none,rfl,hd,Nat.le_refl _,fun j c hj=>by omega⟩ (fun i σ H' _ h=>.of (h.1 _ _ hq)) ?_ ?_
  ·rintro i x σ H2 T hxi ⟨s2,kvs,v3,v4,v5,v6,rfl,hd2,hkl,hkv⟩ hT
   obtain ⟨c,pc,hc,rfl,hpc⟩ := hx.get hxi
   have hil := (List.getElem?_eq_some_iff.mp hc).1
   have s23 : Same H2 (upd H2 T (.tup [.int (i : Int),.ref pc])) := aqR hT
   have hTT : upd H2 T (.tup [.int (i : Int),.ref pc]) T = some (.tup [.int (i : Int),.ref pc]) := aqj
   generalize upd H2 T (.tup [.int (i : Int),.ref pc]) = H3 at s23 hTT
   have s3 := s2.trans s23
   have hd3 := s23 _ _ hd2
   obtain ⟨s,rest,hdr,hfs⟩ := nq0 hf hc
   have hsi : ss[i]? = some s := by
    have : (ss.drop i)[0]? = some s := by rw [hdr]; rfl
    rw [List.getElem?_drop] at this
    simpa using this
   have hsl := (hss s (List.mem_of_getElem? hsi)).1
   have okc := hok c (List.mem_of_getElem? hc)
   have hkv3 : ∀ (j : Nat) (c : Pc),j < i -> cs[j]? = some c -> c.isStep = false -> ∃ v,valV kvs (Sum.inr (⟨c.name.toArray⟩ : Str)) = some v /\ VlV H3 (btM c (ss.drop j)) v := fun j c' h1 h2 h3=>by
    obtain ⟨v,a1,a2⟩ := hkv j c' h1 h2 h3
    exact ⟨v,a1,a2.mono s23⟩
   have put : ∀ {H4 : Hp} {v : V},Same H3 H4 -> VlV H4 (btM c (ss.drop i)) v -> c.isStep = false -> ∃ (H5 : Hp) (kvs' : List (Key × V)),DPut H4 d (tV c.name) v H5 /\ Same H H5 /\ H5 d = some (.dK kvs') /\ kvs'.length <= i + 1 /\ ∀ (j : Nat) (c : Pc),j < i + 1 -> cs[j]? = some c -> c.isStep = false -> ∃ v,valV kvs' (Sum.inr (⟨c.name.toArray⟩ : Str)) = some v /\ VlV H5 (btM c (ss.drop j)) v := fun {H4 v} s34 hv hst=>by
    have hd4 := s34 _ _ hd3
    have up : ∀ {o : HO} {x : Vl} {v : V},VlV H4 x v -> VlV (upd H4 d o) x v := fun {o x v} h=>by
     cases x with
     | txt l=>exact h
     | int z=>exact h
     | lst ls =>
      obtain ⟨a,e1,e2⟩ := h
      exact ⟨a,e1,by rw [aqo (fun z=>by subst z; rw [hd4] at e2; cases e2)]; exact e2⟩
    refine ⟨_,_,DPut.k (k := Sum.inr (⟨c.name.toArray⟩ : Str)) hd4 (Nat.lt_of_lt_of_le (show kvs.length < 100000 by omega) (aqq (Nat.le_refl _))),fun b o hb=>?_,aqj,Nat.le_trans (fqn _ _ _) (by omega),fun j c' hj hc' hs' => ?_⟩
    ·rw [aqo (fun z=>by subst z; rw [hdn] at hb; cases hb)]
     exact (s3.trans s34) _ _ hb
    ·rw [oqO]
     by_cases ej : j = i
     ·subst ej
      rw [hc] at hc'
      cases hc'
      exact ⟨v,if_pos rfl,up hv⟩
     ·obtain ⟨v',a1,a2⟩ := hkv3 j c' (by omega) hc' hs'
      refine ⟨v',?_,up (a2.mono s34)⟩
      rw [if_neg (fun z=>ej (lqL hnd hc' hc hs' hst (kinj z)))]
      exact a1
   walk_at "rd"
   refine ⟨T,_,rfl,.of hTT,rfl,_,_,rfl,_,_,rfl,rfl,_,_,.inr (.of (s3 _ _ hw)),aqi (j := 1) rfl,eqN.mpr ⟨_,_,.inr (.of (s3 _ _ ht)),aqi (by rw [List.getElem?_map,hsi]; rfl),eqN.mpr ⟨_,_,.inr (.of (s3 _ _ hpc)),c.at0,aqt.mpr ⟨_,rfl,?_⟩⟩⟩⟩
   rw [bqr]
   refine ite2 (fun hpt=>?_) (fun hpt=>eqN.mpr ⟨_,_,.inr (.of (s3 _ _ hpc)),c.at0,aqt.mpr ⟨_,rfl,?_⟩⟩)
   ·cases c with
    | part hh nn tt =>
     walk_at "rd"
     refine ⟨aqq (by omega),_,_,.inr (.of (s3 _ _ hpc)),aqi (j := 3) rfl,?_⟩
     walk_at "rd"
     have l1 := okc.1
     have l2 := okc.2.1
     refine ⟨aqq (by omega),_,_,.inr (.of (s3 _ _ hpc)),aqi (j := 1) rfl,?_⟩
     walk_at "rd"
     have hpl := fq8 hfs
     have hpl : hh.length + tt.length <= s.length := hpl
     obtain ⟨H5,kvs',d1,d2,d3,d4,d5⟩ := put (v := tV (amid hh tt s)) (Same.refl _) (by rw [hdr]; exact rfl) rfl
     rw [show (s.length : Int) - (tt.length : Int) = ((s.length - tt.length : Nat) : Int) by omega,kqm]
     exact ⟨aqq (by omega),aqq (by omega),_,_,.inr (.of (s3 _ _ hpc)),aqi (j := 2) rfl,d,H5,rfl,d1,d2,kvs',_,_,_,_,⟨rfl,rfl,rfl,rfl⟩,d3,d4,d5⟩
    | _=>cases hpt
   rw [dqQ]
   refine ite2 (fun hrt=>?_) (fun hrt=>eqN.mpr ⟨_,_,.inr (.of (s3 _ _ hpc)),c.at0,jqG.mpr ⟨_,rfl,?_⟩⟩)
   ·cases c with
    | rest nn =>
     refine ⟨_,_,.inr (.of (s3 _ _ hw)),aqi (j := 1) rfl,_,rfl,?_⟩
     walk_at "rd"
     refine ⟨_,s3 _ _ ht,fun q4 H4 s4 hq4=>?_⟩
     rw [mqv] at hq4
     refine ⟨_,.inr (.of hq4),fun l5 H5 n5 s5 hl5=>⟨_,_,.inr (.of ((s3.trans (s4.trans s5)) _ _ hpc)),aqi (j := 1) rfl,?_⟩⟩
     rw [<- List.map_drop] at hl5
     obtain ⟨H6,kvs',d1,d2,d3,d4,d5⟩ := put (v := .ref l5) (s4.trans s5) ⟨l5,rfl,hl5⟩ rfl
     exact ⟨d,H6,rfl,d1,d2,kvs',_,_,_,_,⟨rfl,rfl,rfl,rfl⟩,d3,d4,d5⟩
    | _=>cases hrt
   rw [gqO]
   refine ite2 (fun hns=>?_) (fun hns=>?_)
   ·have hst : c.isStep = false := by simpa using hns
    have hb : btM c (ss.drop i) = .txt s := by
     rw [hdr]
     cases c with
     | step _=>cases hst
     | part _ _ _=>exact absurd rfl hpt
     | rest _=>exact absurd rfl hrt
     | num _=>rfl
     | word _=>rfl
     | gap _=>rfl
    have h1 : atI c.vals 1 = some (tV c.name) := by
     cases c with
     | step _=>cases hst
     | part _ _ _=>exact absurd rfl hpt
     | rest _=>exact absurd rfl hrt
     | num _=>exact aqi (j := 1) rfl
     | word _=>exact aqi (j := 1) rfl
     | gap _=>exact aqi (j := 1) rfl
    obtain ⟨H5,kvs',d1,d2,d3,d4,d5⟩ := put (v := tV s) (Same.refl _) (by rw [hb]; exact rfl) hst
    exact eqN.mpr ⟨_,_,.inr (.of (s3 _ _ hpc)),h1,d,H5,rfl,d1,d2,kvs',_,_,_,_,⟨rfl,rfl,rfl,rfl⟩,d3,d4,d5⟩
   ·have hst : c.isStep = true := by simpa using hns
    refine ⟨s3,kvs,_,_,_,_,⟨rfl,rfl,rfl,rfl⟩,hd3,by omega,fun j c' hj hc' hs' => ?_⟩
    have : j ≠ i := fun z=>by subst z; rw [hc] at hc'; cases hc'; rw [hst] at hs'; cases hs'
    exact hkv3 j c' (by omega) hc' hs'
  ·rintro σ H2 ⟨s2,kvs,v3,v4,v5,v6,rfl,hd2,hkl,hkv⟩
   walk_at "rd"
   refine k d kvs H2 s2 hd2 fun n x hx' => ?_
   obtain ⟨j,c,h1,h2,rfl,rfl⟩ := hx'
   exact hkv j c (by have := (List.getElem?_eq_some_iff.mp h1).1; omega) h1 h2
theorem mq5 (g : G K mg) : FnOk P w K mg base CX0 2 g.fqM g.eq0 ["thing"] mqT := by
 refine g.iqk.ok mqO (fun vs H Q E h=>?_) (fun cdv A outer s H vs Q E hr h=>?_)
 ·obtain ⟨d,v,rfl,_⟩ := h; rfl
 ·obtain ⟨d,v,rfl,hv,hs,k⟩ := h
  refine ⟨_,(aqf (aqn (cq5 (aqs bqw rfl g.aqH aqA (aqa (pv 0) (aqa (dqs (v := .ty "str") rfl g.nqb kqT rfl) aqb))) (bqZ (aqk (gqS g) (hr.mono (by decide)) rfl g.gqh g.eqI.kp g.gqr .nil pass0 (aqa (pv 0) (aqa (aqW (v := qq8) rfl g.oqm ⟨_,rfl⟩) aqb))))))),?_⟩
  cases hv with
  | lst hp r=>walk_at "rd"; simp only [hqk hp]; walk_at "rd"; exact k H (Same.refl _)
  | tup hp r=>walk_at "rd"; simp only [hqv hp]; walk_at "rd"; exact k H (Same.refl _)
  | str x =>
   walk_at "rd"
   refine ⟨x,_,rfl,eqy hs,fun H' sm=>?_⟩
   simp only [sqE]
   exact k H' sm
  | _=>walk_at "rd"; exact k H (Same.refl _)
theorem iqd (g : G K mg) : FnOk P w K mg base CX0 2 g.eq2 g.dqX ["pieces"] (lqU K) := by
 refine g.fqc.ok lqk (fun vs H Q E h=>?_) (fun cdv A outer s H vs Q E hr h=>?_)
 ·obtain ⟨cs,xs,q,rfl,_⟩ := h; rfl
 ·obtain ⟨cs,xs,q,rfl,hq,hx,hn,k⟩ := h
  refine ⟨_,(aqf (aqn (dqu (fx := []) (fr := []) rfl rfl (by decide +kernel) rfl (by decide +kernel) rfl (by decide +kernel) rfl .nil rfl (gqR (K := K) rfl (pv 0)) (fun _ _ _=>(fq9 (bqc (aqk (hqA g) (hr.mono (by decide)) rfl g.hqs g.fq1.kp g.hqi .nil pass0 (aqa (pv 0) aqb))))) (fun _ _ _=>(aqk (eq9 g) (hr.mono (by decide)) rfl g.eqH g.dqL.kp g.eqz .nil pass0 (aqa (pv 0) aqb)))))),?_⟩
  walk_at "rd"
  have hl := hx.length
  refine ⟨⟨_,hq⟩,fun p n=>?_⟩
  refine gqx (fun i=>(cs[i]?.map fun c=>!c.isStep).getD false) (fun i=>(cs[i]?.map fun c=>tV c.name).getD .non) hq (aqq (by omega)) n (fun i x hi H1 R s1 hR=>?_) (fun i x hi ht H1 T s1 hT=>?_) (fun H1 s1 hp1=>?_)
  ·obtain ⟨c,q,hc,rfl,hv⟩ := hx.get hi
   walk_at "rd"
   have := hR H1 (Same.refl _)
   rw [hc] at this
   exact ⟨c,q,rfl,s1.tup hv,_,rfl,this⟩
  ·obtain ⟨c,q,hc,rfl,hv⟩ := hx.get hi
   rw [hc] at ht
   walk_at "rd"
   have := hT H1 (Same.refl _)
   rw [hc] at this
   exact ⟨c,q,rfl,s1.tup hv,by simpa using ht,this⟩
  ·refine k p H1 s1 ?_
   rw [hp1,hl,gq8 (fun c : Pc=>!c.isStep) (fun c : Pc=>tV c.name) .non cs]
   unfold gapsM
   rw [List.map_map]
   rfl
theorem nqU (g : G K mg) : FnOk P w K mg base CX0 2 g.hqn g.fqZ ["pattern", "count"] (oqB K) := by
 refine g.jqu.ok iqy (fun vs H Q E h=>?_) (fun cdv A outer s H vs Q E hr h=>?_)
 ·obtain ⟨cs,xs,p,q,e,n,rfl,_⟩ := h; rfl
 ·obtain ⟨cs,xs,p,q,e,n,rfl,hp,hq,hx,hn,hnn,k0,k⟩ := h
  refine ⟨_,(aqh (aqx (i := 2) iqy.nd rfl (Or.inl rfl) (aqp (aqe (K := K) rfl) (pv 0) (aqW (v := eq4) rfl g.dqU ⟨_,rfl⟩) (fun _ _=>rfl)))
   (aqh (aqx (i := 3) iqy.nd rfl (Or.inl rfl) (aqr mqi (pv 1) (aqs (aqw (K := K) rfl) rfl g.bqq PySem.boot_len (aqa (pv 2) aqb))))
   (aqh (aqB (PW.pt (jqc (bqc (aqk (lqy g) (hr.mono (by decide)) rfl g.jqg g.gqJ.kp g.iqZ .nil pass0 (aqa (pv 0) aqb))) (gqy (aql tqz (pv 3) aqc (nomark _)))))
    (aqf (aqn (aqr (aqz (K := K)) (pv 2) (aqr rqw (dqq lqT (pv 2) (cqs (lqm hqC aqc)) fqq) (pv 3))))) aqu)
   (aqf (aqn (gqc (aql aqK (pv 3) aqc (nomark _)) (pv 2) cqz)))))),?_⟩
  walk_at "rd"
  refine ⟨_,_,.inr hp,aqi (j := 0) rfl,?_⟩
  have hl := hx.length
  walk_at "rd"
  refine ⟨xs,.inr (.of hq),?_⟩
  refine ⟨cs,xs,p,q,e,rfl,hp,.of hq,hx,by omega,_,rfl,?_⟩
  rw [hl]
  have tail : ¬ (hasRest cs = true /\ cs.length <= n) -> if (n : Int) - (cs.length : Int) = 0 then Q (.ref q) H else Q .non H := fun hnot=>by
   refine ite2 (fun h0=>?_) (fun h0=>?_)
   ·refine k cs xs q H ?_ (Same.refl _) (.of hq) hx
    unfold spreadM
    rw [if_neg hnot,if_pos (by omega)]
   ·refine k0 ?_
    unfold spreadM
    rw [if_neg hnot,if_neg (by omega)]
  refine ite2 (fun hr=>ite2 (fun hm=>?_) (fun hm=>tail fun z=>by omega)) (fun hr=>tail fun z=>hr z.1)
  have hd1 : (xs.drop (xs.length - 1)).length <= 1 := by rw [List.length_drop]; omega
  have ht : ((n : Int) - (cs.length : Int)).toNat = n - cs.length := by omega
  refine ⟨_,hq,fun p1 H1 s1 e1=>⟨_,e1,hm,by omega,?_,fun p2 H2 s2 e2=>.inr ⟨_,_,(s1.trans s2) _ _ hq,e2,?_,fun p3 H3 s3 e3=>?_⟩⟩⟩
  ·rw [jqE,ht]
   exact aqq (Nat.le_trans (Nat.mul_le_mul hd1 (Nat.le_refl _)) (by omega))
  ·rw [jqE,ht]
   have := pqB (xs.drop (xs.length - 1)) (n - cs.length) hd1
   exact aqq (by omega)
  ·rw [jqE,ht,hl] at e3
   have s03 := s1.trans (s2.trans s3)
   refine k _ _ p3 H3 ?_ s03 (.of e3) (PcAll.append (((hx.drop (cs.length - 1)).reps (n - cs.length)).mono s03) (hx.mono s03))
   unfold spreadM
   rw [if_pos ⟨hr,by omega⟩]
theorem jq9 (g : G K mg) : FnOk P w K mg base CX0 2 g.dqT g.dqc ["part", "step"] (kq2 K) := by
 refine g.fqx.ok eqx (fun vs H Q E h=>?_) (fun cdv A outer s H vs Q E hr h=>?_)
 ·obtain ⟨h1,n,t,s,p,rfl,_⟩ := h; rfl
 ·obtain ⟨h1,n,t,s,p,rfl,hp,hs,hh,ht,k⟩ := h
  refine ⟨_,(aqh (aqx (i := 2) eqx.nd rfl (Or.inl rfl) (aqk (fqb g) (hr.mono (by decide)) rfl g.eqo g.dqB.kp g.eqD .nil pass0 (aqa (pv 0) aqb)))
   (aqh (aqx (i := 3) eqx.nd rfl (Or.inl rfl) (aqk (eqZ g) (hr.mono (by decide)) rfl g.eqG g.dqD.kp g.eqK .nil pass0 (aqa (pv 0) aqb)))
   (aqf (aqn (cq5 (cqx (K := K) rfl PySem.F.plainAttrs_str PySem.F.slot_str_startswith PySem.F.type_str_startswith kqf (pv 1) (aqa (pv 2) aqb)) (cq5 (cqx (K := K) rfl PySem.F.plainAttrs_str PySem.F.slot_str_endswith PySem.F.type_str_endswith nqr (pv 1) (aqa (pv 3) aqb)) (bqZ (aqC lqC (aqs (aqw (K := K) rfl) rfl g.bqq PySem.boot_len (aqa (pv 1) aqb)) (aqr (hqN (K := K) rfl) (aqs (aqw (K := K) rfl) rfl g.bqq PySem.boot_len (aqa (pv 2) aqb)) (aqs (aqw (K := K) rfl) rfl g.bqq PySem.boot_len (aqa (pv 3) aqb))) (nomark _))))))))),?_⟩
  walk_at "rd"
  refine ⟨_,p,rfl,hp,_,p,rfl,hp,?_⟩
  show rStart1 (tV s) [tV h1] H _
  rw [L2.lqO]
  have kp : partB h1 t s = (decide (s.take h1.length = h1) && (decide (s.drop (s.length - t.length) = t) && decide (h1.length + t.length < s.length))) := rfl
  rw [kp] at k
  refine ⟨_,rfl,ite2 (fun ha=>?_) (fun ha=>?_)⟩
  rotate_left
  ·rw [(Bool.not_eq_true _).mp ha] at k
   exact k
  rw [ha,Bool.true_and] at k
  show rEnd1 (tV s) [tV t] H _
  rw [L2.lqV]
  refine ⟨_,rfl,ite2 (fun hb=>?_) (fun hb=>?_)⟩
  rotate_left
  ·rw [(Bool.not_eq_true _).mp hb] at k
   exact k
  rw [hb,Bool.true_and] at k
  refine ⟨aqq hs,?_⟩
  show rLenU K [tV h1] H _
  walk_at "rd"
  refine ⟨aqq hh,aqq ht,?_⟩
  show Q (V.bl (decide ((h1.length : Int) + (t.length : Int) < (s.length : Int)))) H
  rw [show decide ((h1.length : Int) + (t.length : Int) < (s.length : Int)) = decide (h1.length + t.length < s.length) from decide_eq_decide.mpr (by omega)]
  exact k
theorem kqH (g : G K mg) : FnOk P w K mg base CX0 2 g.eqd g.dqb ["text"] kqv := by
 refine g.fqC.ok kqV (fun vs H Q E h=>?_) (fun cdv A outer s H vs Q E hr h=>?_)
 ·obtain ⟨l,rfl,_⟩ := h; rfl
 ·obtain ⟨l,rfl,hl,k⟩ := h
  refine ⟨_,(aqh (aqB (PW.pt (eqn (bqG (pqc lqR lqR aqc (aqs (aqw (K := K) rfl) rfl g.bqq PySem.boot_len (aqa (pv 0) aqb)) (aqW (v := hqe) rfl g.eqh ⟨_,rfl⟩))) (cq4 (bqG (bqc (aqk (gqS g) (hr.mono (by decide)) rfl g.gqh g.eqI.kp g.gqr .nil pass0 (aqa (pv 0) (aqa (aqW (v := kqs) rfl g.kqL ⟨_,rfl⟩) aqb))))))))
    (aqf (aqn cqV)) aqu)
   (aqf (aqn (oqw (aqC aqK (pv 0) aqv (nomark _)) (bqZ (aqC hqX (aqp (aqe (K := K) rfl) (pv 0) aqc (fun _ _=>rfl)) aqv (nomark _))))))),?_⟩
  have eF : kqs = .str ⟨fgS.toArray⟩ := by
   show V.str (Str.ofString _) = _
   unfold fgS; simp
  have e0 : Str.ofString "0" = ⟨[48].toArray⟩ := by decide +kernel
  rw [eF,e0]
  walk_at "rd"
  have no : ∀ H',Same H H' -> (¬ (1 <= l.length /\ l.length <= 60 /\ l.all isFig = true)) -> Q (.bl false) H' := fun H' sm h=>by
   have : numB l = false := by
    unfold numB
    by_cases h1 : 1 <= l.length
    ·by_cases h2 : l.length <= 60
     ·rw [show l.all isFig = false by simpa using fun z=>h ⟨h1,h2,z⟩]; simp
     ·rw [decide_eq_false h2]; simp
    ·rw [decide_eq_false h1]; simp
   rw [<- this]
   exact k H' sm
  refine ⟨aqq hl,ite2 (fun h1=>ite2 (fun h2=>no _ (Same.refl _) (by omega)) (fun h2=>?_)) (fun h1=>no _ (Same.refl _) (by omega))⟩
  refine ⟨_,_,rfl,hl,fun H' sm=>⟨_,rfl,?_⟩⟩
  have ea : ((⟨l.toArray⟩ : Str).cps.toList.all fun c=>decide (c ∈ (⟨fgS.toArray⟩ : Str).cps.toList)) = l.all isFig := by
   rw [<- nqh]
  rw [ea]
  refine ite2 (fun h3=>no H' sm (by rw [h3]; simp)) (fun h3=>?_)
  have h3 : l.all isFig = true := by simpa using h3
  have en : numB l = (decide (l = [48]) || !decide (l.head? = some 48)) := by
   unfold numB
   rw [decide_eq_true (show 1 <= l.length by omega),decide_eq_true (show l.length <= 60 by omega),h3]
   rfl
  have k' := k H' sm
  rw [en] at k'
  cases l with
  | nil=>simp at h1
  | cons c r =>
   refine ite2 (fun h4=>?_) (fun h4=>⟨c,aqq hl,aqi (j := 0) rfl,?_⟩)
   ·rw [decide_eq_true (bq0.mp h4)] at k'
    exact k'
   ·rw [decide_eq_false (fun z=>h4 (by rw [z]))] at k'
    have : decide ((⟨#[c]⟩ : Str) = ⟨[48].toArray⟩) = decide ((c :: r).head? = some 48) := by
     refine decide_eq_decide.mpr ?_
     rw [show (⟨#[c]⟩ : Str) = ⟨[c].toArray⟩ from rfl,bq0]
     simp
    first | (rw [this]; simpa using k') | (simp at this ⊢; simpa [this] using k')
theorem jqb (g : G K mg) : FnOk P w K mg base CX0 2 g.fqN g.fqf ["text"] nqc := by
 refine g.gqp.ok mqK (fun vs H Q E h=>?_) (fun cdv A outer s H vs Q E hr h=>?_)
 ·obtain ⟨l,rfl,_⟩ := h; rfl
 ·obtain ⟨l,rfl,hl,k⟩ := h
  refine ⟨_,(aqf (aqn (cq5 (mqu lqR lqR aqc (aqs (aqw (K := K) rfl) rfl g.bqq PySem.boot_len (aqa (pv 0) aqb)) (aqW (v := iqD) rfl g.fqj ⟨_,rfl⟩)) (bqZ (aqk (gqS g) (hr.mono (by decide)) rfl g.gqh g.eqI.kp g.gqr .nil pass0 (aqa (pv 0) (aqa (aqW (v := eqC) rfl g.eqO ⟨_,rfl⟩) aqb))))))),?_⟩
  have eF : eqC = .str ⟨smaL.toArray⟩ := by
   show V.str (Str.ofString _) = _
   unfold smaL; simp
  rw [eF]
  walk_at "rd"
  have no : (¬ (1 <= l.length /\ l.length <= 60)) -> Q (.bl false) H := fun h=>by
   have : wordB l = false := by
    unfold wordB
    by_cases h1 : 1 <= l.length
    ·rw [decide_eq_false (show ¬ l.length <= 60 from fun z=>h ⟨h1,z⟩)]; simp
    ·rw [decide_eq_false h1]; simp
   rw [<- this]
   exact k H (Same.refl _)
  refine ⟨aqq hl,ite2 (fun h1=>ite2 (fun h2=>?_) (fun h2=>no (by omega))) (fun h1=>no (by omega))⟩
  refine ⟨_,_,rfl,hl,fun H' sm=>?_⟩
  have e : wordB l = (l.all fun c=>decide (c ∈ smaL)) := by
   unfold wordB
   rw [decide_eq_true (show 1 <= l.length by omega),decide_eq_true (show l.length <= 60 by omega),nqs]
   rfl
  have := k H' sm
  rw [e] at this
  simpa using this
theorem iqE (g : G K mg) : FnOk P w K mg base CX0 2 g.cqK g.cqm ["gap", "steps"] (iqB K) := by
 refine g.dq6.ok iqP (fun vs H Q E h=>?_) (fun cdv A outer s H vs Q E hr h=>?_)
 ·obtain ⟨c,s,ss,p,q,rfl,_⟩ := h; rfl
 ·obtain ⟨c,s,ss,p,q,rfl,hp,hq,hf,hs,hh,ht,hn,k⟩ := h
  refine ⟨_,(aqh (aqB (aql aqK (aqp (aqe (K := K) rfl) (pv 0) aqc (fun _ _=>rfl)) aqv (nomark _))
    (aqf (aqn (aqG (cqQ (K := K) rfl) rfl g.gqX fqA (aqa (pv 1) aqb)))) aqu)
   (aqh (aqB (aql aqK (aqp (aqe (K := K) rfl) (pv 0) aqc (fun _ _=>rfl)) aqv (nomark _))
    (aqf (aqn (aqG oqF rfl g.mqP kqX (aqa (aqp (aqe (K := K) rfl) (pv 1) aqc (fun _ _=>rfl)) aqb)))) aqu)
   (aqf (aqn (dqq (nq7 (K := K) rfl) (aqp (aqe (K := K) rfl) (pv 1) aqc (fun _ _=>rfl)) (cqs (aqs (aqw (K := K) rfl) rfl g.bqq PySem.boot_len (aqa (aqk (fqb g) (hr.mono (by decide)) rfl g.eqo g.dqB.kp g.eqD .nil pass0 (aqa (pv 0) aqb)) aqb))) (cqs (aqr mqi (aqs (aqw (K := K) rfl) rfl g.bqq PySem.boot_len (aqa (aqp (aqe (K := K) rfl) (pv 1) aqc (fun _ _=>rfl)) aqb)) (aqs (aqw (K := K) rfl) rfl g.bqq PySem.boot_len (aqa (aqk (eqZ g) (hr.mono (by decide)) rfl g.eqG g.dqD.kp g.eqK .nil pass0 (aqa (pv 0) aqb)) aqb))))))))),?_⟩
  walk_at "rd"
  refine ⟨_,_,.inr hp,c.at0,?_⟩
  refine L2.aqt.mpr ⟨_,rfl,?_⟩
  rw [dqQ]
  have rest : c.isRest = false -> c.isNum = false -> c.head.length + c.tail.length <= s.length -> ∃ xs v,(SqL K H q xs \/ SqT K H q xs) /\ atI xs 0 = some v /\ iq5 K [V.ref p] H (fun x H1=>rLenU K [x] H1 fun x H1=>∃ i,x = V.int i /\ ∃ xs v_1,(SqL K H1 q xs \/ SqT K H1 q xs) /\ atI xs 0 = some v_1 /\ rLenU K [v_1] H1 fun x H1=>iq6 K [V.ref p] H1 (fun x_1 H1=>rLenU K [x_1] H1 fun y H2=>rI0 (fun i j=>V.int (i - j)) x y H2 fun x H1=>∃ i_1,x = V.int i_1 /\ rSl K v (some i) (some i_1) H1 Q) E0) E0 := fun h1 h2 hle=>by
   refine ⟨_,_,.inr (.of hq),aqi (j := 0) rfl,c,p,rfl,hp,aqq hh,_,rfl,_,_,.inr (.of hq),aqi (j := 0) rfl,aqq hs,c,p,rfl,hp,aqq ht,?_⟩
   refine ⟨_,_,rfl,rfl,_,rfl,?_⟩
   refine L2.qqj.mpr ⟨aqq hs,?_⟩
   show Q (.str (Txt.slice ⟨s.toArray⟩ (some (c.head.length : Int)) (some ((s.length : Int) - (c.tail.length : Int))))) H
   rw [show (s.length : Int) - (c.tail.length : Int) = ((s.length - c.tail.length : Nat) : Int) by omega,kqm]
   refine k _ H (Same.refl _) ?_ (fun q z=>by cases z)
   cases c with
   | rest n=>cases h1
   | num n=>cases h2
   | _=>rfl
  cases c with
  | rest n =>
   refine ite2 (fun _=>?_) (fun z=>absurd rfl z)
   exact ⟨_,.inr (.of hq),fun l H1 n1 s1 e1=>k _ H1 s1 ⟨l,rfl,e1⟩ (fun q z=>by cases z; exact n1)⟩
  | num n =>
   refine ite2 (fun z=>by cases z) (fun _=>⟨_,_,.inr hp,Pc.at0 _,?_⟩)
   refine L2.aqt.mpr ⟨_,rfl,?_⟩
   rw [dqy]
   refine ite2 (fun _=>⟨_,_,.inr (.of hq),aqi (j := 0) rfl,?_⟩) (fun z=>absurd rfl z)
   have hn := oq8 hf
   exact ⟨⟨s.toArray⟩,intOf s,rfl,by show s.length <= 640; omega,qqB hn.2.2 hn.1 hn.2.1,k _ H (Same.refl _) rfl (fun q z=>by cases z)⟩
  | part h n t =>
   refine ite2 (fun z=>by cases z) (fun _=>⟨_,_,.inr hp,Pc.at0 _,?_⟩)
   refine L2.aqt.mpr ⟨_,rfl,?_⟩
   rw [dqy]
   exact ite2 (fun z=>by cases z) (fun _=>rest rfl rfl (fq8 hf))
  | _ =>
   refine ite2 (fun z=>by cases z) (fun _=>⟨_,_,.inr hp,Pc.at0 _,?_⟩)
   refine L2.aqt.mpr ⟨_,rfl,?_⟩
   rw [dqy]
   exact ite2 (fun z=>by cases z) (fun _=>rest rfl rfl (by show 0 + 0 <= _; omega))
theorem gqD (g : G K mg) : FnOk P w K mg base CX0 2 g.bqx g.bqf ["gap", "value"] (gqE K) := by
 refine g.cqw.ok gqH (fun vs H Q E h=>?_) (fun cdv A outer s H vs Q E hr h=>?_)
 ·obtain ⟨c,p,d,v,rfl,_⟩ := h; rfl
 ·obtain ⟨c,p,d,v,rfl,hp,hc,hh,ht,hv,hs,hval,k⟩ := h
  refine ⟨_,(aqh (aqB (aql aqK (aqp (aqe (K := K) rfl) (pv 0) aqc (fun _ _=>rfl)) aqv (nomark _))
    (aqf (aqn (pv 1))) aqu)
   (aqh (aqB (aql aqK (aqp (aqe (K := K) rfl) (pv 0) aqc (fun _ _=>rfl)) aqv (nomark _))
    (aqf (aqn (aqL (aqa (aqG hqa rfl g.nqb kqT (aqa (pv 1) aqb)) aqb)))) aqu)
   (aqf (aqn (aqL (aqa (aqr (aqz (K := K)) (aqr (aqz (K := K)) (aqk (fqb g) (hr.mono (by decide)) rfl g.eqo g.dqB.kp g.eqD .nil pass0 (aqa (pv 0) aqb)) (pv 1)) (aqk (eqZ g) (hr.mono (by decide)) rfl g.eqG g.dqD.kp g.eqK .nil pass0 (aqa (pv 0) aqb))) aqb)))))),?_⟩
  walk_at "rd"
  have b3 : 300000 <= sizeLine := by decide
  refine ⟨_,_,.inr hp,c.at0,aqt.mpr ⟨_,rfl,?_⟩⟩
  rw [dqQ]
  refine ite2 (fun hrs=>?_) (fun hrs=>⟨_,_,.inr hp,c.at0,aqt.mpr ⟨_,rfl,?_⟩⟩)
  ·cases c with
   | rest n =>
    cases hv with
    | lst hl r =>
     rename_i a xs ds
     have e : isValD (.rest n) (.list ds) = (decide (0 < ds.length) && ds.all canD) := rfl
     rw [e,Bool.and_eq_true] at hval
     refine k a H (Same.refl _) ?_
     rw [hl,kq1 r hval.2]
     rfl
    | _=>cases hval
   | _=>cases hrs
  rw [dqy]
  refine ite2 (fun hnm=>?_) (fun hnm=>?_)
  ·cases c with
   | num n =>
    cases hv with
    | int i =>
     have e : isValD (.num n) (.int i) = decide (0 <= i /\ i < 10 ^ 60) := rfl
     rw [e] at hval
     have h60 := of_decide_eq_true hval
     have hlg : i.natAbs.log2 < 1920 := by
      by_cases h0 : i.natAbs = 0
      ·rw [h0]; decide
      ·rw [Nat.log2_lt h0]
       have : i.natAbs < 10 ^ 60 := by omega
       exact Nat.lt_of_lt_of_le this (by decide +kernel)
     exact ⟨i,rfl,hlg,by decide,fun p1 H1 n1 s1 hp1=>k p1 H1 s1 hp1⟩
    | _=>cases hval
   | _=>cases hnm
  ·have e : isValD c d = (ftx d && !isDot (c.head ++ txD d ++ c.tail)) \/ c.isWord = true := by
    cases c with
    | part a b e=>exact .inl rfl
    | gap n=>exact .inl (show (ftx d && !isDot (txD d)) = (ftx d && !isDot ([] ++ txD d ++ [])) by rw [List.nil_append,List.append_nil])
    | step s=>cases hc
    | num n=>exact absurd rfl hnm
    | word n=>exact .inr rfl
    | rest n=>exact absurd rfl hrs
   have e2 : stpsD c d = [c.head ++ txD d ++ c.tail] := by
    cases c with
    | step s=>cases hc
    | num n=>exact absurd rfl hnm
    | rest n=>exact absurd rfl hrs
    | _=>rfl
   cases hv with
   | str x =>
    obtain ⟨⟨l⟩⟩ := x
    have hl : l.length <= 100000 := eqy hs
    refine ⟨c,p,rfl,hp,dqP.mpr ⟨Nat.le_trans (show c.head.length + l.length <= 300000 by omega) b3,c,p,rfl,hp,dqP.mpr ⟨?_,by decide,fun p1 H1 n1 s1 hp1=>k p1 H1 s1 ?_⟩⟩⟩
    ·show ((⟨c.head.toArray⟩ : Str) ++ ⟨l.toArray⟩).length + c.tail.length <= _
     rw [cq3,cqy,List.length_append]
     omega
    ·rw [hp1,e2]
     show some (HO.lst [V.str ((⟨c.head.toArray⟩ : Str) ++ ⟨l.toArray⟩ ++ ⟨c.tail.toArray⟩)]) = _
     rw [cq3,cq3]
     rfl
   | _ =>
    rcases e with e | e
    ·rw [e] at hval; cases hval
    ·cases c with
     | word n=>cases hval
     | _=>cases e
theorem gqk (g : G K mg) : FnOk P w K mg base CX0 2 g.dql g.cqA ["_law_script", "_law_start", "_law_many"] (jqq K) := by
 refine g.dqh.ok jqI (fun vs H Q E h=>?_) (fun cdv A outer s H vs Q E hr h=>?_)
 ·obtain ⟨a,ns,s,m,rfl,_⟩ := h; rfl
 ·obtain ⟨a,ns,s0,m,rfl,hS,hm,k⟩ := h
  refine ⟨_,(aqf (aqn (dqu (fx := ["_law_script", "_law_start"]) (fr := [0,1]) rfl rfl (by decide +kernel) rfl (by decide +kernel) rfl (by decide +kernel) rfl (.cons rfl rfl rfl rfl (.cons rfl rfl rfl rfl .nil)) rfl (bqs rfl g.cq2 (aqa (pv 2) aqb)) (fun _ _ _=>jqf) (fun _ _ _=>(aqk (bqW g) (hr.mono (by decide)) rfl g.bqu g.aq4.kp g.bqv .nil pass0 (aqa (pv 1) (aqa (aqr (aqz (K := K)) (pv 2) (pv 0)) aqb))))))),?_⟩
  walk_at "rd"
  refine ⟨by omega,by omega,fun p n=>?_⟩
  rw [Int.toNat_natCast]
  refine iqr (fun i ys H' => SameBut p H H' /\ ∃ is : List Int,ys = is.map V.int /\ is.length = i) (aqq (by omega)) ⟨cq6,[],rfl,rfl⟩ (fun i ys H2 T hi hJ hp2 hT=>?_) (fun ys H2 hJ hp2=>?_)
  ·obtain ⟨sb,is,rfl,hl⟩ := hJ
   walk_at "rd"
   rw [show ((s0 : Int) + (0 + (i : Int))) = ((s0 + i : Nat) : Int) by omega]
   exact ⟨a,ns,s0 + i,rfl,(sb.same n).seq hS,hT _ H2 hp2 ⟨sb.trans cq6,is ++ [ns.getD (s0 + i) 0],by rw [List.map_append]; rfl,by rw [List.length_append,List.length_singleton,hl]⟩⟩
  ·obtain ⟨sb,is,rfl,hl⟩ := hJ
   exact k is p H2 hl (sb.same n) hp2
theorem dqa (g : G K mg) : FnOk P w K mg base CX0 2 g.dqY g.dqo ["_law_cell", "_law_signs_here", "_law_many"] kqk := by
 refine g.bq6.ok gq2 (fun vs H Q E h=>?_) (fun cdv A outer s H vs Q E hr h=>?_)
 ·obtain ⟨c,gg,m,rfl,_⟩ := h; rfl
 ·obtain ⟨c,gg,m,rfl,hg0,hg1,hm0,hm,k⟩ := h
  refine ⟨_,(aqh (aqx (i := 3) gq2.nd rfl (Or.inl rfl) (aqk (cqY g) (hr.mono (by decide)) rfl g.cqM g.bq2.kp g.cqO .nil pass0 (aqa (pv 0) (aqa (pv 1) (aqa (pv 2) aqb)))))
   (aqh (aqB (PW.pt (eqn (aql aqK (pv 3) aqv (nomark _)) (cq4 (aql aqK (pv 3) aqv (nomark _)))))
    (aqf (aqn (aqr (hqN (K := K) rfl) (aqr (hqN (K := K) rfl) (pv 3) (aqp (aqe (K := K) rfl) (pv 1) aqc (fun _ _=>rfl))) aqv))) aqu)
   (aqf (aqn (pv 3))))),?_⟩
  walk_at "rd"
  have eD : Str.ofString "." = ⟨[46].toArray⟩ := by decide +kernel
  have eU : Str.ofString ".." = ⟨[46,46].toArray⟩ := by decide +kernel
  have eM : Str.ofString "-" = ⟨[45].toArray⟩ := by decide +kernel
  rw [eD,eU,eM]
  refine ⟨c,gg,m,rfl,hg0,hg1,hm,fun l hl hs=>aqt.mpr ⟨_,rfl,?_⟩⟩
  obtain ⟨g0,gr,rfl⟩ : ∃ g0 gr,gg = g0 :: gr := by
   cases gg with
   | nil=>cases hg0
   | cons a b=>exact ⟨a,b,rfl⟩
  have fin : (46 ∈ g0 :: gr) -> l.length <= m -> ∃ c,(g0 :: gr).length <= sizeLine /\ atI (g0 :: gr) 0 = some c /\ rAddU K (tV l) (V.str { cps := #[c] }) H fun x H1=>rAddU K x (V.str ⟨[45].toArray⟩) H1 Q := fun h46 _=>by
   refine ⟨g0,aqq (by omega),aqi (j := 0) rfl,oqp.mpr ⟨aqq (by rw [cqy]; show l.length + 1 <= _; omega),?_⟩⟩
   rw [show (⟨#[g0]⟩ : Str) = ⟨[g0].toArray⟩ from rfl,cq3]
   refine oqp.mpr ⟨aqq (by rw [cqy,cqy,List.length_append,List.length_singleton,List.length_singleton]; omega),?_⟩
   rw [cq3]
   refine k _ (by simp) (by simp; omega) (fun z=>absurd h46 z) (fun x hx=>?_) (pqS _ 45 (by decide))
   rcases List.mem_append.mp hx with z | z
   ·rcases List.mem_append.mp z with z | z
    ·exact .inl (hs x z)
    ·rw [List.mem_singleton.mp z]; exact .inl (List.mem_cons_self ..)
   ·exact .inr ⟨h46,List.mem_singleton.mp z⟩
  refine ite2 (fun h1=>?_) (fun h1=>aqt.mpr ⟨_,rfl,?_⟩)
  ·have h1 := bq0.mp (of_decide_eq_true h1)
   exact fin (hs 46 (by rw [h1]; exact List.mem_cons_self ..)) (by omega)
  refine ite2 (fun h2=>?_) (fun h2=>?_)
  ·have h2 := bq0.mp (of_decide_eq_true h2)
   exact fin (hs 46 (by rw [h2]; exact List.mem_cons_self ..)) (by omega)
  ·refine k l (by omega) (by omega) (fun _=>hl) (fun x hx=>.inl (hs x hx)) (bq3.mpr ⟨fun z=>h2 (decide_eq_true (by rw [z]; rfl)),fun z=>h1 (decide_eq_true (by rw [z]; rfl))⟩)
theorem kqJ (g : G K mg) : FnOk P w K mg base CX0 2 g.eqc g.dqi ["_law_pattern_here", "_law_way_here"] (kqO K) := by
 refine g.fqD.ok cqq (fun vs H Q E h=>?_) (fun cdv A outer s H vs Q E hr h=>?_)
 ·obtain ⟨cs,xs,p,q,pw,ps,cl,r,e,ss,rfl,_⟩ := h; rfl
 ·obtain ⟨cs,xs,p,q,pw,ps,cl,r,e,ss,rfl,hp,hq,hx,hn,hok,hw,hps,hsn,hss,k⟩ := h
  refine ⟨_,(aqh (aqx (i := 2) cqq.nd rfl (Or.inr rfl) (aqG (cqQ (K := K) rfl) rfl g.gqX fqA (aqa (aqp (aqe (K := K) rfl) (pv 0) aqc (fun _ _=>rfl)) aqb)))
   (aqh (sqn (pv 1) (gqL (n := 3) (K := K) rfl rfl (aq0 (aqF (i := 3) cqq.nd rfl (Or.inl rfl)) (aq0 (aqF (i := 4) cqq.nd rfl (Or.inr rfl)) (aq0 (aqF (i := 5) cqq.nd rfl (Or.inl rfl)) fqB)))))
   (aqh (aqB (PW.pt (eqn (bqG (bqc (pv 3))) (cq4 (aql hqX (pv 5) (aqp (aqe (K := K) rfl) (pv 0) aqc (fun _ _=>rfl)) (nomark _)))))
    (aqf (aqn cqV)) aqu)
   (aqX (aqB (PW.pt (jqc (aql (hq6 hr.units) (pv 2) (aqL aqb) (nomark _)) (gqy (aql aqK (aqp (aqe (K := K) rfl) (aqp (aqe (K := K) rfl) (pv 2) (lqm hqC aqc) (fun _ _=>rfl)) aqc (fun _ _=>rfl)) aqv (nomark _)))))
    (aqf (pqp PassesOwn.never (aql pqr (aqs (aqw (K := K) rfl) rfl g.bqq PySem.boot_len (aqa (pv 2) aqb)) (aqs (aqw (K := K) rfl) rfl g.bqq PySem.boot_len (aqa (pv 4) aqb)) (nomark _))
   (aqf (cqh (cqx (K := K) rfl PySem.F.plainAttrs_list PySem.F.slot_list_append PySem.F.type_list_append aq2 (pv 2) (aqa (aqp (aqe (K := K) rfl) (pv 2) (lqm hqC aqc) (fun _ _=>rfl)) aqb)))))) aqu)
   (aqh (aqB (aql hqX (aqs (aqw (K := K) rfl) rfl g.bqq PySem.boot_len (aqa (pv 2) aqb)) (aqs (aqw (K := K) rfl) rfl g.bqq PySem.boot_len (aqa (pv 4) aqb)) (nomark _))
    (aqf (aqn cqV)) aqu)
   (aqf (aqn (aqC (iqX hr.units) (dqu (fx := ["_law_pieces", "_law_steps"]) (fr := [2,4]) rfl rfl (by decide +kernel) rfl (by decide +kernel) rfl (by decide +kernel) rfl (.cons rfl rfl rfl rfl (.cons rfl rfl rfl rfl .nil)) rfl (bqs rfl g.cq2 (aqa (aqs (aqw (K := K) rfl) rfl g.bqq PySem.boot_len (aqa (pv 4) aqb)) aqb)) (fun _ _ _=>(fq9 (bqG (bqc (aqk (gqM g) (hr.mono (by decide)) rfl g.eqm g.cqt.kp g.eqk .nil pass0 (aqa (aqp (aqe (K := K) rfl) (pv 1) (pv 0) (fun _ _=>rfl)) (aqa (aqp (aqe (K := K) rfl) (pv 2) (pv 0) (fun _ _=>rfl)) aqb))))))) (fun _ _ _=>(pv 0))) (aqL aqb) (nomark _))))))))),?_⟩
  walk_at "rd"
  have hxl := hx.length
  have fS : fitsP cs cl r ss e = (match spreadM cs ss.length with | none=>false | some ds=>r && decide (e = cl) && (List.zipWith fitsM ds ss).all id) := rfl
  refine ⟨_,_,.inr hp,aqi (j := 0) rfl,?_⟩
  walk_at "rd"
  refine ⟨_,.inr (.of hq),fun l H1 n1 s1 hl=>?_⟩
  refine ⟨pw,_,rfl,s1.tup hw,rfl,_,_,rfl,_,_,rfl,_,_,rfl,rfl,r,rfl,?_⟩
  cases r with
  | false =>
   refine ite2 (fun _=>?_) (fun z=>absurd rfl z)
   have : fitsP cs cl false ss e = false := by rw [fS]; cases spreadM cs ss.length <;> rfl
   rw [this] at k
   exact k H1 s1
  | true =>
  refine ite2 (fun z=>by cases z) (fun _=>?_)
  refine ⟨_,_,.inr (s1.tup hp),aqi (j := 1) rfl,?_⟩
  refine L2.lqN.mpr ⟨_,rfl,?_⟩
  by_cases hec : e = cl
  rotate_left
  ·have : fitsP cs cl true ss e = false := by rw [fS]; cases spreadM cs ss.length <;> simp [hec]
   rw [this] at k
   exact ite2 (fun _=>k H1 s1) (fun z=>absurd (by rw [decide_eq_false hec]; rfl) z)
  refine ite2 (fun z=>by rw [decide_eq_true hec] at z; cases z) (fun _=>?_)
  have hT : PcT H1 cs xs := hx.mono s1.toT
  refine ⟨fun σ H2=>Same H H2 /\ ∃ (ds : List Pc) (ys : List V),σ = [some (.ref p),some (.ref pw),some (.ref l),some (.bl true),some (.ref ps),some (.bl e)] /\ H2 l = some (.lst ys) /\ PcT H2 ds ys /\ (∀ c ∈ ds,c ∈ cs) /\ ds.length <= 500 /\ spreadM cs ss.length = (if ds.length = ss.length then some ds else none),?_,?_⟩
  ·refine ⟨by decide,fun p2 H2 n2 s2 hp2=>?_⟩
   have hl2 := s2 _ _ hl
   refine ⟨.list (cs.map pcD),.list [],.lst hl2 (hT.mono s2.toT).isT.is,.lst hp2 .nil,(jqD fun c hc=>(hok c hc).2).shaped (by decide),by decide +kernel,_,rfl,?_⟩
   rw [eq7]
   have s02 := s1.trans s2
   have hT2 := hT.mono s2.toT
   have keep : hasRest cs = false -> Same H H2 /\ ∃ (ds : List Pc) (ys : List V),[some (V.ref p),some (.ref pw),some (.ref l),some (.bl true),some (.ref ps),some (.bl e)] = [some (V.ref p),some (.ref pw),some (.ref l),some (.bl true),some (.ref ps),some (.bl e)] /\ H2 l = some (.lst ys) /\ PcT H2 ds ys /\ (∀ c ∈ ds,c ∈ cs) /\ ds.length <= 500 /\ spreadM cs ss.length = (if ds.length = ss.length then some ds else none) := fun hr =>
    ⟨s02,cs,xs,rfl,hl2,hT2,fun c hc=>hc,by omega,dqS (.inl hr)⟩
   refine ite2 (fun hne=>?_) (fun hne=>keep ?_)
   rotate_left
   ·cases cs with
    | nil=>rfl
    | cons a b=>exact absurd rfl hne
   obtain ⟨c,hc⟩ : ∃ c,cs.getLast? = some c := by
    cases hcl : cs.getLast? with
    | some c=>exact ⟨c,rfl⟩
    | none=>rw [List.getLast?_eq_none_iff] at hcl; subst hcl; cases hne
   have hc' := hc
   rw [List.getLast?_eq_getElem?] at hc'
   have hcl := (List.getElem?_eq_some_iff.mp hc').1
   obtain ⟨v,hv⟩ : ∃ v,xs[cs.length - 1]? = some v := ⟨_,List.getElem?_eq_getElem (by omega)⟩
   obtain ⟨c2,pc,hc2,rfl,hpc⟩ := hT2.get hv
   rw [hc'] at hc2
   cases hc2
   have hvl : xs.getLast? = some (.ref pc) := by rw [List.getLast?_eq_getElem?,hxl]; exact hv
   have hat : ∀ j : Nat,atI (xs ++ List.replicate j (V.ref pc)) (-1) = some (.ref pc) := fun j=>by
    have := jqw (l := xs ++ List.replicate j (V.ref pc)) (s := .ref pc) id (by
     cases j with
     | zero=>simpa using hvl
     | succ j=>rw [List.getLast?_append,List.getLast?_replicate]; simp)
    simpa using this
   refine ⟨_,_,.inl (.of hl2),by simpa using hat 0,?_⟩
   walk_at "rd"
   refine ⟨_,_,.inr (.of hpc),c.at0,?_⟩
   refine L2.aqt.mpr ⟨_,rfl,?_⟩
   rw [dqQ]
   refine ite2 (fun hr=>?_) (fun hr=>?_)
   rotate_left
   ·obtain ⟨a,ds,ys,_,b⟩ := keep (by unfold hasRest; rw [hc]; simpa using hr)
    exact ⟨a,ds,ys,b⟩
   refine rqu (fun m σ H3=>∃ j : Nat,m = ss.length - (cs.length + j) /\ (j = 0 \/ cs.length + j <= ss.length) /\ σ = [some (.ref p),some (.ref pw),some (.ref l),some (.bl true),some (.ref ps),some (.bl e)] /\ Same H H3 /\ H3 l = some (.lst (xs ++ List.replicate j (.ref pc))) /\ PcT H3 (cs ++ List.replicate j c) (xs ++ List.replicate j (.ref pc)) /\ H3 pc = some (.tup c.vals)) (ss.length - cs.length) ⟨0,rfl,.inl rfl,rfl,s02,by simpa using hl2,by simpa using hT2,hpc⟩ ?_
   rintro m σ H3 ⟨j,rfl,hj,rfl,s3,hl3,hT3,hpc3⟩
   walk_at "rd"
   have hyl : (xs ++ List.replicate j (V.ref pc)).length = cs.length + j := by rw [List.length_append,List.length_replicate,hxl]
   have hsl : (ss.map tV).length = ss.length := List.length_map ..
   refine ⟨_,.inl (.of hl3),_,.inr (.of (s3 _ _ hps)),ite2 (fun hlt=>?_) (fun hge=>?_)⟩
   ·have hlt : cs.length + j < ss.length := by rw [hyl,hsl] at hlt; omega
    refine ⟨fun σ' H4=>σ' = [some (.ref p),some (.ref pw),some (.ref l),some (.bl true),some (.ref ps),some (.bl e)] /\ H4 = upd H3 l (.lst (xs ++ List.replicate j (V.ref pc) ++ [.ref pc])),?_,⟨_,.of hl3⟩,_,_,.inl (.of hl3),hat j,_,hl3,?_,rfl,rfl⟩
    ·rintro σ' H4 ⟨rfl,rfl⟩
     have tk : SameT H3 (upd H3 l (.lst (xs ++ List.replicate j (V.ref pc) ++ [.ref pc]))) := fun b o hb=>by
      rw [aqo (fun z=>by subst z; rw [hl3] at hb; cases hb)]; exact hb
     have er : xs ++ List.replicate (j + 1) (V.ref pc) = xs ++ List.replicate j (V.ref pc) ++ [.ref pc] := by rw [List.replicate_succ',List.append_assoc]
     have ec : cs ++ List.replicate (j + 1) c = cs ++ List.replicate j c ++ [c] := by rw [List.replicate_succ',List.append_assoc]
     refine ⟨ss.length - (cs.length + (j + 1)),by omega,j + 1,rfl,.inr (by omega),rfl,fun b o hb=>?_,?_,?_,tk _ _ hpc3⟩
     ·rw [aqo (fun z=>by subst z; rw [n1] at hb; cases hb)]; exact s3 _ _ hb
     ·rw [er]; exact aqj
     ·rw [er,ec]
      exact PcT.append (.cons (tk _ _ hpc3) .nil) (hT3.mono tk)
    ·rw [hyl]; exact Nat.lt_of_lt_of_le (show cs.length + j < 100000 by omega) (aqq (Nat.le_refl _))
   ·have hge : ss.length <= cs.length + j := by rw [hyl,hsl] at hge; omega
    refine ⟨s3,_,_,hl3,hT3,fun z hz=>?_,?_,?_⟩
    ·rcases List.mem_append.mp hz with hz | hz
     ·exact hz
     ·rw [List.eq_of_mem_replicate hz]; exact List.mem_of_getLast? hc
    ·rw [List.length_append,List.length_replicate]; omega
    ·rw [List.length_append,List.length_replicate]
     by_cases hle : cs.length <= ss.length
     ·have ej : j = ss.length - cs.length := by omega
      rw [hqT hc hr hle,if_pos (by omega),ej]
     ·have ej : j = 0 := by omega
      subst ej
      rw [dqS (.inr (by omega)),if_neg (by omega),if_neg (by omega)]
  ·rintro σ H2 ⟨s2,ds,ys,rfl,hl2,hd,hsub,hdl,hsp⟩
   walk_at "rd"
   have hyl := hd.length
   have hsl : (ss.map tV).length = ss.length := List.length_map ..
   refine ⟨_,.inl (.of hl2),_,.inr (.of (s2 _ _ hps)),ite2 (fun hne=>?_) (fun he=>?_)⟩
   ·have : fitsP cs cl true ss e = false := by
     rw [fS,hsp,if_neg (fun z=>hne (by rw [hyl,hsl,z]))]
    rw [this] at k
    exact k H2 s2
   have heq : ds.length = ss.length := by
    have := Classical.not_not.mp he
    rw [hyl,hsl] at this
    omega
   rw [if_pos heq] at hsp
   have fE : fitsP cs cl true ss e = (List.zipWith fitsM ds ss).all id := by
    rw [fS,hsp]
    show (true && decide (e = cl) && _) = _
    rw [decide_eq_true hec]; rfl
   have hZ : (List.zipWith fitsM ds ss).length = ss.length := by rw [List.length_zipWith]; omega
   refine ⟨_,.inr (.of (s2 _ _ hps)),by rw [hsl]; omega,by rw [hsl]; omega,fun l3 n3=>?_⟩
   rw [hsl,Int.toNat_natCast]
   refine lqt (fun i=>!((List.zipWith fitsM ds ss)[i]?.getD true)) (fun i=>V.int (0 + (i : Int))) (aqq (by omega)) n3 (fun i hi H3 R s3 hR=>?_) (fun i hi hf H3 T s3 hT=>?_) (fun H3 s3 hl3=>?_)
   ·obtain ⟨v,hv⟩ : ∃ v,ys[i]? = some v := ⟨_,List.getElem?_eq_getElem (by omega)⟩
    obtain ⟨c,pc,hc,rfl,hpc⟩ := hd.get hv
    obtain ⟨s,hs⟩ : ∃ s,ss[i]? = some s := ⟨_,List.getElem?_eq_getElem (by omega)⟩
    have hzi : (List.zipWith fitsM ds ss)[i]? = some (fitsM c s) := by rw [List.getElem?_zipWith,hc,hs]
    rw [hzi] at hR
    have hsm := hss s (List.mem_of_getElem? hs)
    have hin := hok c (hsub c (List.mem_of_getElem? hc))
    walk_at "rd"
    refine ⟨_,_,.inl (.of (s3 _ _ hl2)),by rw [Int.zero_add]; exact aqi hv,_,_,.inr (.of ((s2.trans s3) _ _ hps)),by rw [Int.zero_add]; exact aqi (by rw [List.getElem?_map,hs]; rfl),?_⟩
    exact ⟨c,pc,s,rfl,.of (s3 _ _ hpc),hin.1,hsm.1,hsm.2.1,hsm.2.2,fun H4 s4=>⟨_,rfl,hR H4 s4⟩⟩
   ·walk_at "rd"
    exact hT H3 (Same.refl _)
   ·refine ⟨by decide,fun p4 H4 n4 s4 hp4=>?_⟩
    have em : ((List.range ss.length).filter fun i=>!((List.zipWith fitsM ds ss)[i]?.getD true)).map (fun i : Nat=>V.int (0 + (i : Int))) = (((List.range ss.length).filter fun i=>!((List.zipWith fitsM ds ss)[i]?.getD true)).map (fun i : Nat=>(0 + (i : Int)))).map V.int := by rw [List.map_map]; rfl
    rw [em] at hl3
    refine ⟨_,.list [],.lst (s4 _ _ hl3) (jqe _),.lst hp4 .nil,lqz _,by decide,?_⟩
    rw [eq7,List.isEmpty_map,List.isEmpty_map]
    have := range_all (List.zipWith fitsM ds ss)
    rw [hZ] at this
    rw [this,<- fE]
    exact k H4 ((s2.trans s3).trans s4)
theorem gqj (g : G K mg) : FnOk P w K mg base CX0 2 g.bqj g.bqb ["_law_piece_here", "_law_cell", "_law_signs_here"] (fqH K) := by
 refine g.bq1.ok dqj (fun vs H Q E h=>?_) (fun cdv A outer s H vs Q E hr h=>?_)
 ·obtain ⟨c,p,i,g,rfl,_⟩ := h; rfl
 ·obtain ⟨c,p,i,sg,rfl,hp,hok,hst,hrs,hg0,hgl,hgs,k⟩ := h
  refine ⟨_,(aqh (aqB (aql hqX (aqp (aqe (K := K) rfl) (pv 0) aqc (fun _ _=>rfl)) aqv (nomark _))
    (aqf (aqn (pv 0))) aqu)
   (aqh (aqx (i := 3) dqj.nd rfl (Or.inl rfl) (aqk (cqY g) (hr.mono (by decide)) rfl g.cqM g.bq2.kp g.cqO .nil pass0 (aqa (aqr aqM (pv 1) aqc) (aqa (pv 2) (aqa (aqr aqN (aqr aqM (pv 1) aqc) aqc) aqb)))))
   (aqf (aqn (aq8 (aqa aqv (aqa (pv 3) (aqa (aqp (aqe (K := K) rfl) (pv 0) aqc (fun _ _=>rfl)) (aqa (aqk (cqY g) (hr.mono (by decide)) rfl g.cqM g.bq2.kp g.cqO .nil pass0 (aqa (aqr aqM (pv 1) aqc) (aqa (pv 2) (aqa (aqr (aqz (K := K)) (aqG iqz rfl g.mqP kqX (aqa (aqC aqK (pv 3) aqv (nomark _)) aqb)) (aqr aqN (aqr aqM (pv 1) aqc) aqc)) aqb)))) aqb))))))))),?_⟩
  walk_at "rd"
  refine ⟨_,_,.inr (.of hp),c.at0,L2.jqG.mpr ⟨_,rfl,?_⟩⟩
  rw [bqr]
  cases hpt : c.isPart with
  | false=>exact ite2 (fun _=>k c p H hok hst hrs rfl (fun h=>h) (fun _=>rfl) (Same.refl _) hp) (fun z=>absurd rfl z)
  | true =>
   refine ite2 (fun z=>by cases z) (fun _=>?_)
   cases c with
   | part hh nn tt =>
    obtain ⟨m1,e1,h1⟩ : ∃ m : Nat,i / 4 % 3 = (m : Int) /\ m <= 2 := ⟨(i / 4 % 3).toNat,by omega,by omega⟩
    rw [e1]
    refine ⟨⟨by decide,by decide⟩,⟨by decide,by decide⟩,by decide,_,sg,m1,rfl,hg0,hgl,by omega,fun l1 hl1 hs1=>?_⟩
    refine ⟨_,_,.inr (.of hp),aqi (j := 2) rfl,⟨by decide,by decide⟩,L2.aqt.mpr ?_⟩
    walk_at "rd"
    obtain ⟨m2,e2,h2,h3⟩ : ∃ m : Nat,((if (⟨l1.toArray⟩ : Str) = ⟨#[]⟩ then 1 else 0) + i / 8 % 2 : Int) = (m : Int) /\ m <= 2 /\ (l1 = [] -> 0 < m) := by
     by_cases he : l1 = []
     ·rw [if_pos (nqq.mpr he)]
      exact ⟨(1 + i / 8 % 2).toNat,by omega,by omega,fun _=>by omega⟩
     ·rw [if_neg (fun z=>he (nqq.mp z))]
      exact ⟨(0 + i / 8 % 2).toNat,by omega,by omega,fun z=>absurd z he⟩
    rw [e2]
    refine ⟨⟨by decide,by decide⟩,by decide,_,sg,m2,rfl,hg0,hgl,by omega,fun l2 hl2 hs2=>⟨by decide,fun p5 H5 n5 s5 hp5=>?_⟩⟩
    refine k (.part l1 nn l2) p5 H5 ⟨by omega,by omega,fun x hx=>hgs x (hs1 x hx),fun x hx=>hgs x (hs2 x hx),fun z=>?_⟩ rfl rfl rfl (fun _=>rfl) (fun z=>by cases z) s5 hp5
    obtain ⟨z1,z2⟩ := List.append_eq_nil_iff.mp z
    have := h3 z1
    rw [z2] at hl2
    simp at hl2
    omega
   | _=>cases hpt
theorem dqJ (g : G K mg) : FnOk P w K mg base CX0 3 g.bqB g.bqp ["thing"] gqV := by
 refine g.bqy.ok gqQ (fun vs H Q E h=>?_) (fun cdv A outer s H vs Q E hr h=>?_)
 ·obtain ⟨d,v,rfl,_⟩ := h; rfl
 ·obtain ⟨d,v,rfl,hv,hs,k⟩ := h
  refine ⟨_,(aqf (aqn (cq5 (aqk (mq5 g) (hr.mono (by decide)) rfl g.jq7 g.iqk.kp g.lqb .nil pass0 (aqa (pv 0) aqb)) (bqZ (aqC lqC (aqs (aqw (K := K) rfl) rfl g.bqq PySem.boot_len (aqa (pv 0) aqb)) aqc (nomark _)))))),?_⟩
  walk_at "rd"
  refine ⟨d,v,rfl,hv,hs,fun H1 s1=>?_⟩
  walk_at "rd"
  have k1 := k H1 s1
  cases hv with
  | str x =>
   refine ite2 (fun h=>?_) (fun h=>?_)
   ·walk_at "rd"
    refine ⟨aqq (eqy hs),?_⟩
    have e : ftx (.str x) = decide ((0 : Int) < (x.length : Int)) := by
     simp only [ftx]
     rw [show x.cps.toList.all isSg = true from h,Bool.true_and]
     exact decide_eq_decide.mpr (by omega)
    rw [e] at k1
    exact k1
   ·rw [show ftx (.str x) = false by simp only [ftx]; rw [show x.cps.toList.all isSg = false from (Bool.not_eq_true _).mp h,Bool.false_and]] at k1
    exact k1
  | _=>exact k1
theorem lqa (g : G K mg) : FnOk P w K mg base CX0 3 g.dq9 g.dqg ["piece", "step"] (kqZ K) := by
 refine g.fqy.ok kqw (fun vs H Q E h=>?_) (fun cdv A outer s H vs Q E hr h=>?_)
 ·obtain ⟨c,s,p,rfl,_⟩ := h; rfl
 ·obtain ⟨c,s,p,rfl,hp,hs,hh,ht,k⟩ := h
  refine ⟨_,(aqh (aqB (bqc (aqk (hqQ g) (hr.mono (by decide)) rfl g.hqt g.gqe.kp g.hqm .nil pass0 (aqa (pv 1) aqb)))
    (aqf (aqn cqV)) aqu)
   (aqh (aqB (aql aqK (aqp (aqe (K := K) rfl) (pv 0) aqc (fun _ _=>rfl)) aqv (nomark _))
    (aqf (aqn (aqC aqK (pv 1) (aqp (aqe (K := K) rfl) (pv 0) aqc (fun _ _=>rfl)) (nomark _)))) aqu)
   (aqh (aqB (aql aqK (aqp (aqe (K := K) rfl) (pv 0) aqc (fun _ _=>rfl)) aqv (nomark _))
    (aqf (aqn (aqk (jq9 g) (hr.mono (by decide)) rfl g.hqU g.fqx.kp g.hqz .nil pass0 (aqa (pv 0) (aqa (pv 1) aqb))))) aqu)
   (aqh (aqB (aql aqK (aqp (aqe (K := K) rfl) (pv 0) aqc (fun _ _=>rfl)) aqv (nomark _))
    (aqf (aqn (aqk (kqH g) (hr.mono (by decide)) rfl g.iqv g.fqC.kp g.hqK .nil pass0 (aqa (pv 1) aqb)))) aqu)
   (aqf (aqn (gqc (aql aqK (aqp (aqe (K := K) rfl) (pv 0) aqc (fun _ _=>rfl)) aqv (nomark _)) (aqk (jqb g) (hr.mono (by decide)) rfl g.hqP g.gqp.kp g.hqI .nil pass0 (aqa (pv 1) aqb)) cqV))))))),?_⟩
  walk_at "rd"
  refine ⟨s,rfl,_,rfl,?_⟩
  have kk := k
  by_cases hdt : isDot s = true
  ·rw [if_pos hdt]
   have e : fitsM c s = false := by unfold fitsM; rw [hdt]; rfl
   rw [e] at k
   exact k H (Same.refl _)
  rw [if_neg hdt]
  have hdf : isDot s = false := by simpa using hdt
  refine ⟨_,_,.inr hp,c.at0,?_⟩
  refine L2.aqt.mpr ⟨_,rfl,?_⟩
  rw [gqO]
  cases c with
  | step w =>
   refine ite2 (fun _=>⟨_,_,.inr hp,aqi (j := 1) rfl,?_⟩) (fun z=>absurd rfl z)
   refine L2.aqt.mpr ?_
   have e : fitsM (.step w) s = decide ((⟨s.toArray⟩ : Str) = ⟨w.toArray⟩) := by
    unfold fitsM; rw [hdf]
    show decide (s = w) = _
    exact decide_eq_decide.mpr bq0.symm
   rw [<- e]
   exact k H (Same.refl _)
  | part h n t =>
   refine ite2 (fun z=>by cases z) (fun _=>⟨_,_,.inr hp,Pc.at0 _,?_⟩)
   refine L2.aqt.mpr ⟨_,rfl,?_⟩
   rw [bqr]
   refine ite2 (fun _=>?_) (fun z=>absurd rfl z)
   have e : fitsM (.part h n t) s = partB h t s := by unfold fitsM; rw [hdf]; rfl
   exact ⟨h,n,t,s,p,rfl,hp,hs,hh,ht,by rw [<- e]; exact k H (Same.refl _)⟩
  | num n =>
   refine ite2 (fun z=>by cases z) (fun _=>⟨_,_,.inr hp,Pc.at0 _,?_⟩)
   refine L2.aqt.mpr ⟨_,rfl,?_⟩
   rw [bqr]
   refine ite2 (fun z=>by cases z) (fun _=>⟨_,_,.inr hp,Pc.at0 _,?_⟩)
   refine L2.aqt.mpr ⟨_,rfl,?_⟩
   rw [dqy]
   refine ite2 (fun _=>?_) (fun z=>absurd rfl z)
   have e : fitsM (.num n) s = numB s := by unfold fitsM; rw [hdf]; rfl
   exact ⟨s,rfl,hs,fun H' sm=>by rw [<- e]; exact k H' sm⟩
  | word n =>
   refine ite2 (fun z=>by cases z) (fun _=>⟨_,_,.inr hp,Pc.at0 _,?_⟩)
   refine L2.aqt.mpr ⟨_,rfl,?_⟩
   rw [bqr]
   refine ite2 (fun z=>by cases z) (fun _=>⟨_,_,.inr hp,Pc.at0 _,?_⟩)
   refine L2.aqt.mpr ⟨_,rfl,?_⟩
   rw [dqy]
   refine ite2 (fun z=>by cases z) (fun _=>⟨_,_,.inr hp,Pc.at0 _,?_⟩)
   refine L2.aqt.mpr ⟨_,rfl,?_⟩
   rw [fqE]
   refine ite2 (fun _=>?_) (fun z=>absurd rfl z)
   have e : fitsM (.word n) s = wordB s := by unfold fitsM; rw [hdf]; rfl
   exact ⟨s,rfl,hs,fun H' sm=>by rw [<- e]; exact k H' sm⟩
  | _ =>
   refine ite2 (fun z=>by cases z) (fun _=>⟨_,_,.inr hp,Pc.at0 _,?_⟩)
   refine L2.aqt.mpr ⟨_,rfl,?_⟩
   rw [bqr]
   refine ite2 (fun z=>by cases z) (fun _=>⟨_,_,.inr hp,Pc.at0 _,?_⟩)
   refine L2.aqt.mpr ⟨_,rfl,?_⟩
   rw [dqy]
   refine ite2 (fun z=>by cases z) (fun _=>⟨_,_,.inr hp,Pc.at0 _,?_⟩)
   refine L2.aqt.mpr ⟨_,rfl,?_⟩
   rw [fqE]
   refine ite2 (fun z=>by cases z) (fun _=>?_)
   have e := k H (Same.refl _)
   unfold fitsM at e
   rw [hdf] at e
   exact e
theorem gqA (g : G K mg) : FnOk P w K mg base (CXN P w base) 3 g.bqY g.bqA ["pattern", "values"] (gqP K g.aqE) := by
 refine g.cqZ.okn bqz (fun vs H Q E h=>?_) (fun cdv A outer s H vs Q E hr h=>?_)
 ·obtain ⟨cs,xs,p,q,pz,cl,ws,ys,rfl,_⟩ := h; rfl
 ·obtain ⟨cs,xs,p,q,pz,cl,ws,ys,rfl,hp,hq,hx,hn,hpv,hw,hwl,kQ,kE⟩ := h
  refine ⟨_,(aqh (aqx (i := 2) bqz.nd rfl (Or.inl rfl) (aqk (iqd g) (hr.mono (by decide)) rfl g.gqF g.fqc.kp g.gqU .nil pass0 (aqa (aqp (aqe (K := K) rfl) (pv 0) (aqW (v := eq4) rfl g.dqU ⟨_,rfl⟩) (fun _ _=>rfl)) aqb)))
   (aqf (cqW PassesOwn.leaving rfl (fqe (K := K) rfl (pv 1)) (gqL (n := 2) (K := K) rfl rfl (aq0 (aqF (i := 3) bqz.nd rfl (Or.inl rfl)) (aq0 (aqF (i := 4) bqz.nd rfl (Or.inl rfl)) fqB)))
   (aqf (aqB (aql (kqy (K := K) rfl) (pv 3) (pv 2) (by with_unfolding_all rfl))
    (aqf (jqX jql rfl g.gqg g.hqF (cq0 g) (hr.mono (by decide)) g.bqU rfl pass0 rfl (aqa (pv 3) aqb))) aqu))))),?_⟩
  walk_at "rd"
  refine ⟨_,_,.inr hp,rfl,cs,xs,q,rfl,hq,hx,by omega,fun p1 H1 s1 hp1=>⟨⟨_,.of (s1 _ _ hpv)⟩,?_⟩⟩
  have hgl := lq9 cs
  refine hqS (xs := ys) (fun i σ H' => Same H1 H' /\ (∀ w ∈ ws.take i,w.1 ∈ gapsM cs) /\ ∃ v3 v4,σ = [some (.ref p),some (.ref pz),some (.ref p1),v3,v4]) ⟨Same.refl _,(fun w hw=>by rw [List.take_zero] at hw; cases hw),none,none,rfl⟩ (fun i σ H' _ h=>.of ((s1.trans h.1) _ _ hpv)) ?_ ?_
  ·rintro i x σ H2 hxi ⟨s2,hpre,v3,v4,rfl⟩
   obtain ⟨n,d,b,v,h1,rfl,h3,h4⟩ := hw.get hxi
   have s12 := s1.trans s2
   walk_at "rd"
   refine ⟨b,_,rfl,.of (s12 _ _ h3),rfl,_,_,rfl,_,_,rfl,rfl,p1,_,rfl,.inl (.of (s2 _ _ hp1)),rfl,?_,_,rfl,?_⟩
   ·exact List.all_eq_true.mpr fun y hy=>by obtain ⟨z,_,rfl⟩ := List.mem_map.mp hy; rfl
   have e : inV (tV n) ((gapsM cs).map tV) = decide (n ∈ gapsM cs) := iqg n (gapsM cs)
   rw [e]
   by_cases hg : n ∈ gapsM cs
   ·rw [decide_eq_true hg]
    refine ite2 (fun z=>absurd z (by decide)) (fun _=>⟨s2,fun w hw' => ?_,_,_,rfl,rfl⟩)
    rw [List.take_add_one,h1] at hw'
    rcases List.mem_append.mp hw' with z | z
    ·exact hpre w z
    ·have : w = (n,d) := by simpa using z
     rw [this]; exact hg
   ·rw [decide_eq_false hg]
    refine ite2 (fun _=>?_) (fun z=>absurd rfl z)
    exact iq1 fun dd H3 s3 hd=>kE n (mqb h1 hpre hg) dd H3 (s12.trans s3) hd
  ·rintro σ H2 ⟨s2,hpre,v3,v4,rfl⟩
   rw [hw.length,List.take_length] at hpre
   exact kQ (iqW hpre) H2 (s1.trans s2)
theorem jqA (g : G K mg) : FnOk P w K mg base CX0 3 g.dqr g.cqD ["_law_cell", "_law_name", "_law_signs_here"] (jqH K) := by
 refine g.eqw.ok cqJ (fun vs H Q E h=>?_) (fun cdv A outer s H vs Q E hr h=>?_)
 ·obtain ⟨c,n,gg,rfl,_⟩ := h; rfl
 ·obtain ⟨c,n,gg,rfl,hg0,hg1,hgs,k⟩ := h
  refine ⟨_,(aqh (aqx (i := 3) cqJ.nd rfl (Or.inl rfl) (aqr aqN (pv 0) aqc))
   (aqh (aqx (i := 4) cqJ.nd rfl (Or.inl rfl) (aqr aqN (aqr cqe (aqr aqM (pv 0) aqc) aqc) aqc))
   (aqh (aqB (aql pqr (pv 3) aqc (nomark _))
    (aqf (aqn (aq8 (aqa aqv (aqa (aqk (dqa g) (hr.mono (by decide)) rfl g.cq1 g.bq6.kp g.cq8 .nil pass0 (aqa (aqr aqM (pv 4) aqc) (aqa (pv 2) (aqa (aqr (aqz (K := K)) aqc (aqr aqN (pv 4) aqc)) aqb)))) aqb))))) aqu)
   (aqh (aqB (aql aqK (pv 3) aqc (nomark _))
    (aqh (aqx (i := 5) cqJ.nd rfl (Or.inl rfl) (aqk (cqY g) (hr.mono (by decide)) rfl g.cqM g.bq2.kp g.cqO .nil pass0 (aqa (aqr aqM (pv 4) aqc) (aqa (pv 2) (aqa (aqr aqN (pv 4) aqc) aqb)))))
   (aqf (aqn (aq8 (aqa aqv (aqa (pv 5) (aqa (pv 1) (aqa (aqk (cqY g) (hr.mono (by decide)) rfl g.cqM g.bq2.kp g.cqO .nil pass0 (aqa (aqr aqM (pv 4) aqc) (aqa (pv 2) (aqa (aqr (aqz (K := K)) (aqG iqz rfl g.mqP kqX (aqa (aqC aqK (pv 5) aqv (nomark _)) aqb)) (aqr aqN (aqr aqM (pv 4) aqc) aqc)) aqb)))) aqb)))))))) aqu)
   (aqf (aqn (aq8 (aqa (aqp (aqe (K := K) rfl) (aqL (aqa aqv (aqa aqv (aqa aqv aqb)))) (aqr mqi (pv 3) aqc) (fun _ _=>rfl)) (aqa (pv 1) aqb))))))))),?_⟩
  walk_at "rd"
  have hm0 : 0 <= c / 6 * 48271 % 2147483647 := Int.emod_nonneg _ (by decide)
  refine ⟨by decide,⟨by decide,by decide⟩,.inr ⟨by decide,by decide⟩,by decide,?_⟩
  generalize c / 6 * 48271 % 2147483647 = mo at hm0
  have c0 := Int.emod_nonneg c (show (6 : Int) ≠ 0 by decide)
  have c1 := Int.emod_lt_of_pos c (show (0 : Int) < 6 by decide)
  refine ite2 (fun _=>⟨⟨by decide,by decide⟩,by decide,?_⟩) (fun h2=>ite2 (fun _=>⟨⟨by decide,by decide⟩,by decide,?_⟩) (fun h3=>?_))
  ·obtain ⟨m,hm,hm3⟩ : ∃ m : Nat,1 + mo % 3 = (m : Int) /\ 1 <= m /\ m <= 3 := ⟨(1 + mo % 3).toNat,by omega,by omega,by omega⟩
   rw [hm]
   refine ⟨_,gg,m,rfl,hg0,hg1,by omega,by omega,fun l l0 l1 _ lg ld=>⟨by decide,fun p H1 n1 s1 hp1=>?_⟩⟩
   exact k (.step l) p H1 ⟨l0,by omega,fun x hx=>(lg x hx).elim (hgs x) (fun z=>by rw [z.2]; decide),ld⟩ rfl (fun z=>by cases z) s1 hp1
  ·obtain ⟨m,hm,hm3⟩ : ∃ m : Nat,mo % 3 = (m : Int) /\ m <= 2 := ⟨(mo % 3).toNat,by omega,by omega⟩
   rw [hm]
   refine ⟨_,gg,m,rfl,hg0,hg1,by omega,fun hd hdl hdg=>⟨⟨by decide,by decide⟩,aqt.mpr (sqa.mpr ⟨⟨by decide,by decide⟩,by decide,nqN.mpr ?_⟩)⟩⟩
   obtain ⟨b,hb,hb1⟩ : ∃ b : Nat,mo / 8 % 2 = (b : Int) /\ b <= 1 := ⟨(mo / 8 % 2).toNat,by omega,by omega⟩
   obtain ⟨t,ht,ht2,ht0⟩ : ∃ t : Nat,(if decide ((⟨hd.toArray⟩ : Str) = ⟨#[]⟩) = true then 1 else 0) + mo / 8 % 2 = (t : Int) /\ t <= 2 /\ (hd = [] -> 0 < t) := by
    rw [hb]
    by_cases he : hd = []
    ·rw [if_pos (decide_eq_true (by rw [he]))]
     exact ⟨1 + b,by omega,by omega,fun _=>by omega⟩
    ·rw [if_neg (fun z=>he (nqq.mp (of_decide_eq_true z)))]
     exact ⟨b,by omega,by omega,fun z=>absurd z he⟩
   rw [ht]
   refine ⟨_,gg,t,rfl,hg0,hg1,by omega,fun tl tll tlg=>⟨by decide,fun p H1 n1 s1 hp1=>?_⟩⟩
   refine k (.part hd n tl) p H1 ⟨by omega,by omega,fun x hx=>hgs x (hdg x hx),fun x hx=>hgs x (tlg x hx),fun z=>?_⟩ rfl (fun _=>rfl) s1 hp1
   obtain ⟨z1,z2⟩ := List.append_eq_nil_iff.mp z
   have := ht0 z1
   rw [z2] at tll
   simp at tll
   omega
  ·refine ⟨by decide,fun p H1 n1 s1 hp1=>?_⟩
   have h : c % 6 - 3 = 0 \/ c % 6 - 3 = 1 \/ c % 6 - 3 = 2 := by omega
   rcases h with h | h | h <;> rw [h]
   ·exact ⟨_,_,.inl (.of hp1),aqi (j := 0) rfl,by decide,fun p2 H2 n2 s2 e2=>k (.num n) p2 H2 trivial rfl (fun _=>rfl) (s1.trans s2) e2⟩
   ·exact ⟨_,_,.inl (.of hp1),aqi (j := 1) rfl,by decide,fun p2 H2 n2 s2 e2=>k (.word n) p2 H2 trivial rfl (fun _=>rfl) (s1.trans s2) e2⟩
   ·exact ⟨_,_,.inl (.of hp1),aqi (j := 2) rfl,by decide,fun p2 H2 n2 s2 e2=>k (.gap n) p2 H2 trivial rfl (fun _=>rfl) (s1.trans s2) e2⟩
theorem jq4 (g : G K mg) : FnOk P w K mg base CX0 3 g.dqR g.cq9 ["_law_piece_here", "_law_cell", "_law_signs_here"] (kqB K) := by
 refine g.fqt.ok eqL (fun vs H Q E h=>?_) (fun cdv A outer s H vs Q E hr h=>?_)
 ·obtain ⟨c,p,i,g,rfl,_⟩ := h; rfl
 ·obtain ⟨c,p,i,sg,rfl,hp,hok,hg0,hgl,hgs,k⟩ := h
  refine ⟨_,(aqh (aqx (i := 3) eqL.nd rfl (Or.inl rfl) (aqr aqN (aqr cqe (pv 1) aqc) aqc))
   (aqh (aqB (aql aqK (aqp (aqe (K := K) rfl) (pv 0) aqc (fun _ _=>rfl)) aqv (nomark _))
    (aqf (aqn (aqp (aqe (K := K) rfl) (pv 0) aqc (fun _ _=>rfl)))) aqu)
   (aqh (aqB (aql aqK (aqp (aqe (K := K) rfl) (pv 0) aqc (fun _ _=>rfl)) aqv (nomark _))
    (aqf (aqn (aqG hqa rfl g.nqb kqT (aqa (aqp (aqe (K := K) rfl) (aqL (aqa (aqr aqN (pv 1) aqc) (aqa (aqr aqN (pv 1) (aqr qqd aqc aqc)) aqb))) (aqr aqN (pv 3) aqc) (fun _ _=>rfl)) aqb)))) aqu)
   (aqh (aqB (aql aqK (aqp (aqe (K := K) rfl) (pv 0) aqc (fun _ _=>rfl)) aqv (nomark _))
    (aqf (aqn (aqk (dqa g) (hr.mono (by decide)) rfl g.cq1 g.bq6.kp g.cq8 .nil pass0 (aqa (aqr aqM (pv 3) aqc) (aqa aqv (aqa (aqr (aqz (K := K)) aqc (aqr aqN (pv 3) aqc)) aqb)))))) aqu)
   (aqh (aqx (i := 4) eqL.nd rfl (Or.inl rfl) (aqk (dqa g) (hr.mono (by decide)) rfl g.cq1 g.bq6.kp g.cq8 .nil pass0 (aqa (aqr aqM (pv 3) aqc) (aqa (pv 2) (aqa (aqr (aqz (K := K)) aqc (aqr aqN (pv 3) aqc)) aqb)))))
   (aqh (aqB (aql aqK (aqp (aqe (K := K) rfl) (pv 0) aqc (fun _ _=>rfl)) aqv (nomark _))
    (aqf (aqn (aqr (aqz (K := K)) (aqr (aqz (K := K)) (aqp (aqe (K := K) rfl) (pv 0) aqc (fun _ _=>rfl)) (pv 4)) (aqp (aqe (K := K) rfl) (pv 0) aqc (fun _ _=>rfl))))) aqu)
   (aqf (aqn (pv 4))))))))),?_⟩
  walk_at "rd"
  have b3 : 300000 <= sizeLine := by decide
  refine ⟨.inr ⟨by decide,by decide⟩,by decide,_,_,.inr (.of hp),c.at0,aqt.mpr ⟨_,rfl,?_⟩⟩
  generalize i * 69621 % 2147483629 = m
  rw [gqO]
  refine ite2 (fun h1=>?_) (fun h1=>⟨_,_,.inr (.of hp),c.at0,aqt.mpr ⟨_,rfl,?_⟩⟩)
  ·cases c with
   | step w =>
    refine ⟨_,_,.inr (.of hp),aqi (j := 1) rfl,k w H (Same.refl _) ?_ hok.1 (by have := hok.2.1; omega) hok.2.2.1⟩
    show (!isDot w && decide (w = w)) = true
    rw [hok.2.2.2,decide_eq_true rfl]; rfl
   | _=>cases h1
  rw [dqy]
  refine ite2 (fun h3=>?_) (fun h3=>⟨_,_,.inr (.of hp),c.at0,aqt.mpr ⟨_,rfl,?_⟩⟩)
  ·refine ⟨by decide,⟨by decide,by decide,by decide⟩,by decide +kernel,by decide,fun p2 H2 n2 s2 hp2=>⟨by decide,?_⟩⟩
   obtain ⟨j,hj,ej⟩ : ∃ j : Nat,j < 2 /\ m % 2 = (j : Int) := ⟨(m % 2).toNat,by omega,by omega⟩
   obtain ⟨z,hz,hz0,hz1⟩ : ∃ z : Int,[V.int (i % 12),V.int (i % 10 ^ Int.toNat 60)][j]? = some (.int z) /\ 0 <= z /\ z < 10 ^ 60 := by
    have t60 : (0 : Int) < 10 ^ Int.toNat 60 := by decide +kernel
    match j,hj with
    | 0,_=>exact ⟨_,rfl,Int.emod_nonneg _ (by decide),Int.lt_of_lt_of_le (Int.emod_lt_of_pos _ (by decide)) (by decide +kernel)⟩
    | 1,_=>exact ⟨_,rfl,Int.emod_nonneg _ (by omega),Int.emod_lt_of_pos _ t60⟩
   refine ⟨_,_,.inl (.of hp2),by rw [ej]; exact aqi hz,z,rfl,?_,?_⟩
   ·by_cases h0 : z.natAbs = 0
    ·rw [h0]; decide
    ·rw [Nat.log2_lt h0]
     have : z.natAbs < 10 ^ 60 := by omega
     exact Nat.lt_of_lt_of_le this (by decide +kernel)
   ·obtain ⟨n,hn⟩ := Int.eq_ofNat_of_zero_le hz0
    subst hn
    have hd := gqC n
    have ed : dg (n : Int) = (Nat.toDigits 10 n).map Char.toNat := by unfold dg; rw [PySem.W.KIN.signs_num]
    have hfg := pq9 (i := (n : Int)) (by omega)
    have hdl : (dg (n : Int)).length <= 60 := by rw [ed,List.length_map]; exact kqa (by omega)
    have hne : dg (n : Int) ≠ [] := by rw [ed]; exact hd.2.1
    have hnum : numB (dg (n : Int)) = true := by
     unfold numB
     have hp1 : 1 <= (dg (n : Int)).length := List.length_pos_iff.mpr hne
     have hal : (dg (n : Int)).all isFig = true := List.all_eq_true.mpr fun x hx=>by
      have := hfg x hx
      simp only [isFig,Bool.and_eq_true,decide_eq_true_eq]
      exact this
     rw [decide_eq_true hp1,decide_eq_true hdl,hal]
     by_cases h0 : (dg (n : Int)).head? = some 48
     ·rw [ed] at h0
      have := hd.2.2 h0
      subst this
      rw [show dg ((0 : Nat) : Int) = [48] by decide +kernel]; decide
     ·rw [decide_eq_false h0]; simp
    cases c with
    | num nm =>
     refine k (dg (n : Int)) H2 s2 ?_ (List.length_pos_iff.mpr hne) (by omega) (fun x hx=>pq8 (hfg x hx))
     show (!isDot (dg (n : Int)) && numB (dg (n : Int))) = true
     rw [hnum,Bool.and_true,Bool.not_eq_true']
     refine bq3.mpr ⟨fun z=>?_,fun z=>?_⟩
     ·have := hfg 46 (by rw [z]; decide); revert this; decide
     ·have := hfg 46 (by rw [z]; decide); revert this; decide
    | _=>cases h3
  rw [fqE]
  refine ite2 (fun h4=>?_) (fun h4=>?_)
  ·obtain ⟨t,ht,ht1,ht4⟩ : ∃ t : Nat,1 + m % 4 = (t : Int) /\ 1 <= t /\ t <= 4 := ⟨(1 + m % 4).toNat,by omega,by omega,by omega⟩
   have eA : Str.ofString "abcxyz" = ⟨([97,98,99,120,121,122] : List Nat).toArray⟩ := by decide +kernel
   rw [ht,eA]
   refine ⟨⟨by decide,by decide⟩,by decide,_,[97,98,99,120,121,122],t,rfl,by decide,by decide,by omega,by omega,fun l l0 l1 l2 lg ld=>?_⟩
   have hll := l2 (by decide)
   have hin : ∀ x ∈ l,x ∈ ([97,98,99,120,121,122] : List Nat) := fun x hx=>(lg x hx).elim id (fun z=>absurd z.1 (by decide))
   have sm : ∀ x ∈ ([97,98,99,120,121,122] : List Nat),isSma x = true /\ isSg x = true := by decide
   cases c with
   | word nm =>
    refine k l H (Same.refl _) ?_ l0 (by omega) (fun x hx=>(sm x (hin x hx)).2)
    show (!isDot l && wordB l) = true
    unfold wordB
    rw [ld,decide_eq_true (show 1 <= l.length from l0),decide_eq_true (show l.length <= 60 by omega),List.all_eq_true.mpr fun x hx=>(sm x (hin x hx)).1]
    rfl
   | _=>cases h4
  ·obtain ⟨t,ht,ht1,ht4⟩ : ∃ t : Nat,1 + m % 4 = (t : Int) /\ 1 <= t /\ t <= 4 := ⟨(1 + m % 4).toNat,by omega,by omega,by omega⟩
   rw [ht]
   refine ⟨⟨by decide,by decide⟩,by decide,_,sg,t,rfl,hg0,hgl,by omega,by omega,fun l l0 l1 l2 lg ld=>?_⟩
   have hls : ∀ x ∈ l,isSg x = true := fun x hx=>(lg x hx).elim (hgs x) (fun z=>by rw [z.2]; decide)
   refine ⟨_,_,.inr (.of hp),c.at0,aqt.mpr ⟨_,rfl,?_⟩⟩
   rw [bqr]
   refine ite2 (fun h5=>?_) (fun h5=>?_)
   ·cases c with
    | part a n b =>
     obtain ⟨o1,o2,o3,o4,o5⟩ := hok
     refine ⟨_,_,.inr (.of hp),aqi (j := 1) rfl,dqP.mpr ⟨aqq (by rw [cqy,cqy]; omega),_,_,.inr (.of hp),aqi (j := 3) rfl,dqP.mpr ⟨aqq ?_,?_⟩⟩⟩
     ·rw [cq3,cqy,cqy,List.length_append]; omega
     ·rw [cq3,cq3]
      have hlen : (a ++ l ++ b).length = a.length + l.length + b.length := by simp only [List.length_append]
      refine k (a ++ l ++ b) H (Same.refl _) ?_ (by omega) (by omega) (fun x hx=>?_)
      ·show (!isDot (a ++ l ++ b) && partB a b (a ++ l ++ b)) = true
       have hdot : isDot (a ++ l ++ b) = false := by
        have o6 := List.length_pos_iff.mpr o5
        rw [List.length_append] at o6
        refine bq3.mpr ⟨fun z=>?_,fun z=>?_⟩
        ·have zl := congrArg List.length z
         rw [hlen,show sUp.length = 2 from rfl] at zl
         obtain ⟨x,hx⟩ := List.length_eq_one_iff.mp (show l.length = 1 by omega)
         have hm : x ∈ sUp := by rw [<- z,hx]; simp
         have : x = 46 := by revert hm; unfold sUp; simp
         subst this
         exact absurd hx (bq3.mp ld).2
        ·have zl := congrArg List.length z
         rw [hlen,show sStay.length = 1 from rfl] at zl
         omega
       unfold partB
       rw [hdot]
       simp only [Bool.not_false,Bool.true_and,Bool.and_eq_true,decide_eq_true_eq]
       refine ⟨by rw [List.append_assoc,List.take_left],?_,by omega⟩
       have hd : (a ++ l ++ b).length - b.length = (a ++ l).length := by rw [hlen,List.length_append]; omega
       rw [hd,List.drop_left]
      ·simp only [List.mem_append] at hx
       rcases hx with (hx | hx) | hx
       ·exact o3 x hx
       ·exact hls x hx
       ·exact o4 x hx
    | _=>cases h5
   ·refine k l H (Same.refl _) ?_ l0 (by omega) hls
    cases c with
    | step w=>exact absurd rfl h1
    | part a n b=>exact absurd rfl h5
    | num n=>exact absurd rfl h3
    | word n=>exact absurd rfl h4
    | gap n=>show (!isDot l && true) = true; rw [ld]; rfl
    | rest n=>show (!isDot l && true) = true; rw [ld]; rfl
theorem kqA (g : G K mg) : FnOk P w K mg base CX0 3 g.dqO g.dqm ["_law_rule_here", "_law_way_here"] (kqp K) := by
 refine g.fqv.ok cqr (fun vs H Q E h=>?_) (fun cdv A outer s H vs Q E hr h=>?_)
 ·obtain ⟨r,v,w,v',rfl,_⟩ := h; rfl
 ·obtain ⟨⟨⟨cs,e⟩,ds,e'⟩,v,⟨wr,ss,we⟩,v',rfl,⟨p,ps,pg,rfl,hp,hps,hpg⟩,rok,oc,hnd,hgk,hr1,hd4,hw,hsz,hne,k0,k⟩ := h
  refine ⟨_,(aqh (aqB (bqG (bqc (aqk (kqJ g) (hr.mono (by decide)) rfl g.iqs g.fqD.kp g.iqu .nil pass0 (aqa (aqp (aqe (K := K) rfl) (pv 0) aqc (fun _ _=>rfl)) (aqa (pv 1) aqb)))))
    (aqf (aqn cqz)) aqu)
   (aqh (aqx (i := 2) cqr.nd rfl (Or.inl rfl) (aqk (iqL g) (hr.mono (by decide)) rfl g.gqo g.dq4.kp g.gqi .nil pass0 (aqa (aqp (aqe (K := K) rfl) (pv 0) aqc (fun _ _=>rfl)) (aqa (pv 1) aqb))))
   (aqX (aqx (i := 3) cqr.nd rfl (Or.inl rfl) (aqL aqb))
   (aqX (cqW PassesOwn.never rfl (gqR (K := K) rfl (aqp (aqe (K := K) rfl) (aqp (aqe (K := K) rfl) (pv 0) aqc (fun _ _=>rfl)) aqc (fun _ _=>rfl))) (aqF (i := 4) cqr.nd rfl (Or.inl rfl))
   (aqf (aqB (aql aqK (aqp (aqe (K := K) rfl) (pv 4) aqc (fun _ _=>rfl)) aqv (nomark _))
    (aqf (cqh (cqx (K := K) rfl PySem.F.plainAttrs_list PySem.F.slot_list_append PySem.F.type_list_append aq2 (pv 3) (aqa (aqp (aqe (K := K) rfl) (pv 4) aqc (fun _ _=>rfl)) aqb)))) (aqf (aqB (aql aqK (aqp (aqe (K := K) rfl) (pv 4) aqc (fun _ _=>rfl)) aqv (nomark _))
    (aqf (cqh (cqx (K := K) rfl PySem.F.plainAttrs_list PySem.F.slot_list_append PySem.F.type_list_append aq2 (pv 3) (aqa (aqr (aqz (K := K)) (aqr (aqz (K := K)) (aqp (aqe (K := K) rfl) (pv 4) aqc (fun _ _=>rfl)) (lqA hr.units1 (pv 2) (aqp (aqe (K := K) rfl) (pv 4) aqc (fun _ _=>rfl)) (fun _ _=>rfl))) (aqp (aqe (K := K) rfl) (pv 4) aqc (fun _ _=>rfl))) aqb)))) (aqf (aqB (aql aqK (aqp (aqe (K := K) rfl) (pv 4) aqc (fun _ _=>rfl)) aqv (nomark _))
    (aqf (aqx (i := 3) cqr.nd rfl (Or.inl rfl) (aqr (aqz (K := K)) (pv 3) (lqA hr.units1 (pv 2) (aqp (aqe (K := K) rfl) (pv 4) aqc (fun _ _=>rfl)) (fun _ _=>rfl))))) (aqf (cqh (cqx (K := K) rfl PySem.F.plainAttrs_list PySem.F.slot_list_append PySem.F.type_list_append aq2 (pv 3) (aqa (lqA hr.units1 (pv 2) (aqp (aqe (K := K) rfl) (pv 4) aqc (fun _ _=>rfl)) (fun _ _=>rfl)) aqb)))))))))))
   (aqh (aqB (PW.pt (eqn (aql (gqT (K := K) rfl) aqv (pv 3) (by with_unfolding_all rfl)) (cq4 (aql (gqT (K := K) rfl) aqv (pv 3) (by with_unfolding_all rfl)))))
    (aqf (aqn cqz)) aqu)
   (aqf (aqn (aq8 (aqa cqV (aqa (aqG (cq7 (K := K) rfl) rfl g.eqB dq0 (aqa (pv 3) aqb)) (aqa (aqp (aqe (K := K) rfl) (aqp (aqe (K := K) rfl) (pv 0) aqc (fun _ _=>rfl)) aqc (fun _ _=>rfl)) aqb))))))))))),?_⟩
  dsimp only at hps hpg rok oc hnd hgk hr1 hd4 hw hsz hne
  walk_at "rd"
  obtain ⟨q,xs,hps1,hps2,hps3⟩ := hps
  obtain ⟨q',ys,hpg1,hpg2,hpg3⟩ := hpg
  obtain ⟨pw,pt,rfl,hw1,hw2⟩ := id hw
  dsimp only at hw1 hw2
  have hss : ∀ s ∈ ss,SgT s := fun s hs=>⟨hne s hs,(hsz.2 s hs).2⟩
  have hsz1 : ss.length <= 500 := hsz.1
  have hyl := hpg3.length
  have okd : ∀ c ∈ ds,PcOk c := rok.2.2.2
  refine ⟨_,_,.inr (.of hp),aqi (j := 0) rfl,?_⟩
  refine ⟨cs,xs,ps,q,pw,pt,e,wr,we,ss,rfl,.of hps1,hps2,hps3,oc.1,oc.2,.of hw1,hw2,hsz1,fun s hs=>⟨List.length_pos_iff.mpr (hne s hs),(hsz.2 s hs).1,(hsz.2 s hs).2⟩,fun H1 s1=>⟨_,rfl,?_⟩⟩
  cases hf : fitsP cs e wr ss we with
  | false =>
   refine ite2 (fun _=>k0 ?_ H1 s1) (fun z=>absurd rfl z)
   unfold ledR
   rw [if_neg (by rw [hf]; decide)]
  | true =>
  refine ite2 (fun z=>by cases z) (fun _=>?_)
  refine ⟨_,_,.inr (.of (s1 _ _ hp)),aqi (j := 0) rfl,?_⟩
  refine ⟨cs,e,ps,(wr,ss,we),.ref pw,rfl,⟨q,xs,s1 _ _ hps1,s1 _ _ hps2,hps3.mono s1.toT⟩,oc.1,fun c hc=>(oc.2 c hc).1,hnd,hw.mono s1.toT,hsz,hf,fun dv kvs H2 s2 hdv hval=>?_⟩
  dsimp only at hval
  have s02 := s1.trans s2
  haveI : Nonempty Vl := ⟨.int 0⟩
  let f : Pc -> Vl := fun d=>Classical.epsilon fun x=>atT cs ss d.name x
  have hfd : ∀ d ∈ ds,d.isStep = false -> ∃ (c : Pc) (i : Nat),cs[i]? = some c /\ Kin c d /\ f d = btM c (ss.drop i) /\ atT cs ss d.name (f d) := fun d hd hst=>by
   rcases hgk d hd with z | ⟨c,hcm,kn⟩
   ·rw [hst] at z; cases z
   ·obtain ⟨i,hi⟩ := List.mem_iff_getElem?.mp hcm
    have a1 : atT cs ss d.name (btM c (ss.drop i)) := ⟨i,c,hi,kn.1,kn.2.2.1.symm,rfl⟩
    have a2 : atT cs ss d.name (f d) := Classical.epsilon_spec (p := fun x=>atT cs ss d.name x) ⟨_,a1⟩
    exact ⟨c,i,hi,kn,oqG hnd a2 a1,a2⟩
  have hgo : goM ((cs,e),(ds,e')) (wr,ss,we) f = ledR ((cs,e),(ds,e')) (wr,ss,we) := rq8 hnd okd hgk hss fun _ d hd hst=>by
   obtain ⟨_,_,_,_,_,h⟩ := hfd d hd hst
   exact h
  have hgo2 : ledR ((cs,e),(ds,e')) (wr,ss,we) = if (ds.flatMap fun d=>goS (f d) d).any isDot = true then none else some (true,ds.flatMap (fun d=>goS (f d) d),e') := by
   rw [<- hgo]
   exact if_pos hf
  clear_value f
  clear hgo
  have gl : ∀ d ∈ ds,(goS (f d) d).length <= 500 := fun d hd=>by
   cases hst : d.isStep with
   | true =>
    cases d with
    | step w=>show 1 <= 500; decide
    | _=>cases hst
   | false =>
    obtain ⟨c,i,hi,kn,ef,_⟩ := hfd d hd hst
    rw [ef]
    have : (ss.drop i).length <= 500 := by rw [List.length_drop]; omega
    cases c <;> cases d <;> first | exact this | exact Nat.zero_le _ | (show 1 <= 500; decide)
  refine ⟨fun σ H3=>Same H2 H3 /\ ∃ l : Addr,σ = [some (.ref p),some (.ref pw),some (.ref dv),some (.ref l),none] /\ H2 l = none /\ H3 l = some (.lst []),⟨by decide,fun l H3 n3 s3 hl3=>⟨s3,l,rfl,n3,hl3⟩⟩,?_⟩
  rintro σ H3 ⟨s3,l,rfl,hln,hl3⟩
  walk_at "rd"
  refine ⟨fun σ H4=>Same H2 H4 /\ ∃ (l : Addr) (v4 : Option V),σ = [some (.ref p),some (.ref pw),some (.ref dv),some (.ref l),v4] /\ H4 l = some (.lst ((ds.flatMap fun d=>goS (f d) d).map tV)) /\ (ds.flatMap fun d=>goS (f d) d).length <= 2000,?_,?_⟩
  ·refine ⟨_,_,.inr (.of ((s02.trans s3) _ _ hp)),aqi (j := 1) rfl,?_⟩
   refine eqN.mpr ⟨_,_,.inr (.of ((s02.trans s3) _ _ hpg1)),aqi (j := 0) rfl,q',rfl,⟨_,.of ((s02.trans s3) _ _ hpg2)⟩,?_⟩
   refine mqj (xs := ys) (fun i σ H' => Same H2 H' /\ ∃ (l : Addr) (v4 : Option V) (us : List (List Nat)),σ = [some (.ref p),some (.ref pw),some (.ref dv),some (.ref l),v4] /\ H2 l = none /\ H' l = some (.lst (us.map tV)) /\ us = ((ds.take i).flatMap fun d=>goS (f d) d) /\ us.length <= i * 500) ⟨s3,l,none,[],rfl,hln,hl3,by rw [List.take_zero]; rfl,Nat.zero_le _⟩ (fun i σ H' _ h=>.of ((s02.trans h.1) _ _ hpg2)) ?_ ?_
   ·clear hl3 s3 hln
    rintro i x σ H4 hxi ⟨s4,l,v4,us,rfl,hln,hl4,hus,hul⟩
    obtain ⟨d,pd,hd,rfl,hpd⟩ := hpg3.get hxi
    have hdm := List.mem_of_getElem? hd
    have hil := (List.getElem?_eq_some_iff.mp hd).1
    have hpd4 := (s02.trans s4) _ _ hpd
    have h5 : i * 500 <= 2000 := by omega
    have gld := gl d hdm
    have od := okd d hdm
    have enext : (ds.take (i + 1)).flatMap (fun d=>goS (f d) d) = us ++ goS (f d) d := by
     rw [List.take_add_one,hd,List.flatMap_append,<- hus]
     simp
    have hul5 : (us ++ goS (f d) d).length <= (i + 1) * 500 := by rw [List.length_append]; omega
    have app : ∀ {t : List Nat},goS (f d) d = [t] -> ∃ xs,H4 l = some (.lst xs) /\ xs.length < sizeLine /\ Same H2 (upd H4 l (.lst (xs ++ [tV t]))) /\ ∃ (l_1 : Addr) (v4 : Option V) (us : List (List Nat)),(l = l_1 /\ some (V.ref pd) = v4) /\ H2 l_1 = none /\ upd H4 l (.lst (xs ++ [tV t])) l_1 = some (.lst (us.map tV)) /\ us = ((ds.take (i + 1)).flatMap fun d=>goS (f d) d) /\ us.length <= (i + 1) * 500 := fun {t} ht=>by
     refine ⟨_,hl4,Nat.lt_of_lt_of_le (show (us.map tV).length < 100000 by rw [List.length_map]; omega) (aqq (Nat.le_refl _)),eqf s4 hln,l,_,us ++ [t],⟨rfl,rfl⟩,hln,by rw [aqj,List.map_append]; rfl,?_,?_⟩
     ·rw [enext,ht]
     ·rw [<- ht]; exact hul5
    walk_at "rd"
    refine ⟨_,_,.inr (.of hpd4),d.at0,aqt.mpr ⟨_,rfl,?_⟩⟩
    rw [gqO]
    refine ite2 (fun hst=>?_) (fun hst=>⟨_,_,.inr (.of hpd4),d.at0,aqt.mpr ⟨_,rfl,?_⟩⟩)
    ·cases d with
     | step w =>
      refine ⟨⟨_,.of hl4⟩,_,_,.inr (.of hpd4),aqi (j := 1) rfl,?_⟩
      exact app rfl
     | _=>cases hst
    have hst : d.isStep = false := by simpa using hst
    obtain ⟨c,ic,hci,kn,ef,hat⟩ := hfd d hdm hst
    obtain ⟨vv,hvv,hvl⟩ := hval _ _ hat
    have hvl4 := hvl.mono s4
    have hdg : DGet H4 dv (tV d.name) (some vv) := by rw [<- hvv]; exact DGet.k (k := Sum.inr (⟨d.name.toArray⟩ : Str)) (s4 _ _ hdv)
    have shp : d.isRest = false -> ∃ tx,f d = .txt tx /\ tx.length <= 20000 := fun hdr=>by
     obtain ⟨s,rest,hdrop,_⟩ := nq0 hf hci
     have hsl : s.length <= 20000 := (hsz.2 s (List.mem_of_mem_drop (i := ic) (by rw [hdrop]; exact List.mem_cons_self ..))).1
     rw [ef,hdrop]
     have hcr : c.isRest = false := by
      rcases kn.2.2.2 with z | z
      ·cases c with
       | rest _=>cases z.1
       | _=>rfl
      ·rw [<- z]; exact hdr
     cases c with
     | step _=>cases kn.1
     | rest _=>cases hcr
     | part h0 n0 t0=>exact ⟨_,rfl,Nat.le_trans dqW hsl⟩
     | num _=>exact ⟨_,rfl,hsl⟩
     | word _=>exact ⟨_,rfl,hsl⟩
     | gap _=>exact ⟨_,rfl,hsl⟩
    rw [bqr]
    refine ite2 (fun hpt=>?_) (fun hpt=>⟨_,_,.inr (.of hpd4),d.at0,aqt.mpr ⟨_,rfl,?_⟩⟩)
    ·cases d with
     | part h' n' t' =>
      obtain ⟨tx,etx,htx⟩ := shp rfl
      rw [etx] at hvl4
      have hvl4 : vv = tV tx := hvl4
      subst hvl4
      have l1 := od.1
      have l2 := od.2.1
      refine ⟨⟨_,.of hl4⟩,_,_,.inr (.of hpd4),aqi (j := 1) rfl,_,_,.inr (.of hpd4),aqi (j := 2) rfl,dv,_,rfl,hdg,dqP.mpr ⟨aqq (by rw [cqy,cqy]; omega),_,_,.inr (.of hpd4),aqi (j := 3) rfl,dqP.mpr ⟨aqq (by rw [cq3,cqy,cqy,List.length_append]; omega),?_⟩⟩⟩
      rw [cq3,cq3]
      exact app (by rw [etx]; rfl)
     | _=>cases hpt
    rw [dqQ]
    refine ite2 (fun hrt=>?_) (fun hrt=>?_)
    ·cases d with
     | rest n' =>
      have ec : c = .rest n' := by
       rcases kn.2.2.2 with z | z
       ·cases z.2
       ·exact z.symm
      subst ec
      rw [ef] at hvl4
      obtain ⟨la,rfl,hla⟩ : ∃ la,vv = .ref la /\ H4 la = some (.lst ((ss.drop ic).map tV)) := hvl4
      have egs : goS (f (.rest n')) (.rest n') = ss.drop ic := by rw [ef]; rfl
      rw [egs] at enext hul5
      refine ⟨_,_,.inr (.of hpd4),aqi (j := 1) rfl,dv,_,rfl,hdg,.inl ⟨_,_,hl4,hla,aqq (by rw [List.length_map,List.length_map,List.length_drop]; omega),fun l5 H5 n5 s5 hl5=>⟨s4.trans s5,l5,_,us ++ ss.drop ic,⟨rfl,rfl⟩,jq2 s4 n5,by rw [hl5,List.map_append],enext.symm,hul5⟩⟩⟩
     | _=>cases hrt
    ·obtain ⟨tx,etx,htx⟩ := shp (by simpa using hrt)
     rw [etx] at hvl4
     have hvl4 : vv = tV tx := hvl4
     subst hvl4
     have h1 : atI d.vals 1 = some (tV d.name) := by
      cases d with
      | step _=>cases hst
      | part _ _ _=>exact absurd rfl hpt
      | rest _=>exact absurd rfl hrt
      | num _=>exact aqi (j := 1) rfl
      | word _=>exact aqi (j := 1) rfl
      | gap _=>exact aqi (j := 1) rfl
     refine ⟨⟨_,.of hl4⟩,_,_,.inr (.of hpd4),h1,dv,_,rfl,hdg,app ?_⟩
     rw [etx]
     cases d with
     | step _=>cases hst
     | part _ _ _=>exact absurd rfl hpt
     | rest _=>exact absurd rfl hrt
     | num _=>rfl
     | word _=>rfl
     | gap _=>rfl
   ·rintro σ H4 ⟨s4,l,v4,us,rfl,hln,hl4,hus,hul⟩
    rw [hyl,List.take_length] at hus
    subst hus
    exact ⟨s4,l,v4,rfl,hl4,by rw [hyl] at hul; omega⟩
  rintro σ H4 ⟨s4,l,v4,rfl,hl4,hll⟩
  walk_at "rd"
  have eS : V.str (Str.ofString ".") = tV sStay := by decide +kernel
  have eU : V.str (Str.ofString "..") = tV sUp := by decide +kernel
  rw [eS,eU]
  generalize hfl : ds.flatMap (fun d=>goS (f d) d) = us at hl4 hll hgo2
  have flt : (us.map tV).all flatV = true := List.all_eq_true.mpr fun y hy=>by obtain ⟨z,_,rfl⟩ := List.mem_map.mp hy; rfl
  have s04 := s02.trans s4
  have dot1 : ∀ {t : List Nat},isDot t = true -> t ∈ us -> Q .non H4 := fun {t} h1 h2=>by
   refine k0 ?_ H4 s04
   rw [hgo2,if_pos (List.any_eq_true.mpr ⟨t,h2,h1⟩)]
  refine ⟨l,_,rfl,.inl (.of hl4),rfl,flt,_,rfl,?_⟩
  rw [if_neg (show ¬ false = true by decide),show inV (tV sStay) (us.map tV) = decide (sStay ∈ us) from iqg sStay us]
  refine ite2 (fun z=>dot1 (t := sStay) (by decide) (of_decide_eq_true z)) (fun z1=>⟨l,_,rfl,.inl (.of hl4),rfl,flt,_,rfl,?_⟩)
  rw [if_neg (show ¬ false = true by decide),show inV (tV sUp) (us.map tV) = decide (sUp ∈ us) from iqg sUp us]
  refine ite2 (fun z=>dot1 (t := sUp) (by decide) (of_decide_eq_true z)) (fun z2=>⟨_,.inl (.of hl4),fun t5 H5 s5 ht5=>?_⟩)
  have nodot : us.any isDot = false := by
   rw [List.any_eq_false]
   intro t ht hd
   have hd : isDot t = true := hd
   have : t = sUp \/ t = sStay := by
    unfold isDot at hd
    simpa using hd
   rcases this with rfl | rfl
   ·exact z2 (decide_eq_true ht)
   ·exact z1 (decide_eq_true ht)
  rw [if_neg (by rw [nodot]; decide)] at hgo2
  have s05 := s04.trans s5
  refine ⟨_,_,.inr (.of (s05 _ _ hp)),aqi (j := 1) rfl,eqN.mpr ⟨_,_,.inr (.of (s05 _ _ hpg1)),aqi (j := 1) rfl,by decide,fun p6 H6 n6 s6 hp6=>?_⟩⟩
  exact k _ (.ref p6) H6 hgo2 (s05.trans s6) ⟨p6,t5,rfl,hp6,s6 _ _ ht5⟩
theorem kqE (g : G K mg) : FnOk P w K mg base CX0 3 g.dq2 g.dqn ["_law_pattern_here", "_law_cells_here", "_law_signs_here"] (kqj K) := by
 refine g.fqm.ok bqJ (fun vs H Q E h=>?_) (fun cdv A outer s H vs Q E hr h=>?_)
 ·obtain ⟨cs,e,p,pc,g,is,rfl,_⟩ := h; rfl
 ·obtain ⟨cs,e,p,pc,sg,is,rfl,hcl,hpo,hsg,⟨q,xs,hp,hq,hx⟩,hpc,his,hg0,hgl,hgs,k⟩ := h
  refine ⟨_,(aqX (nqJ (i := 3) (fx := []) (fr := []) bqJ.nd rfl rfl rfl rfl (by decide +kernel) rfl (by decide +kernel) rfl (by decide +kernel) rfl .nil rfl (gqR (K := K) rfl (aqp (aqe (K := K) rfl) (pv 0) aqc (fun _ _=>rfl))) (fun _ _ _=>(fq9 (aql (kqy (K := K) rfl) (aqp (aqe (K := K) rfl) (pv 0) aqc (fun _ _=>rfl)) (aq8 (aqa aqv (aqa aqv aqb))) (by with_unfolding_all rfl)))) (fun _ _ _=>(pv 0)))
   (aqX (aqx (i := 4) bqJ.nd rfl (Or.inl rfl) (aqL aqb))
   (aqh (cqW PassesOwn.never rfl (bqs rfl g.cq2 (aqa (aqr aqN (aqp (aqe (K := K) rfl) (pv 1) aqc (fun _ _=>rfl)) aqc) aqb)) (aqF (i := 5) bqJ.nd rfl (Or.inl rfl))
   (aqh (aqx (i := 6) bqJ.nd rfl (Or.inl rfl) (aqr aqN (aqr cqe (aqp (aqe (K := K) rfl) (pv 1) (aqr (aqz (K := K)) aqc (pv 5)) (fun _ _=>rfl)) aqc) aqc))
   (aqf (aqB (PW.pt (jqc (aql (hq6 hr.units) (pv 3) (aqL aqb) (nomark _)) (gqy (aql lqC (aqr aqN (pv 6) aqc) aqc (nomark _)))))
    (aqf (cqh (cqx (K := K) rfl PySem.F.plainAttrs_list PySem.F.slot_list_append PySem.F.type_list_append aq2 (pv 4) (aqa (aqk (gqj g) (hr.mono (by decide)) rfl g.dqA g.bq1.kp g.dqK .nil pass0 (aqa (cqx (K := K) rfl PySem.F.plainAttrs_list PySem.F.slot_list_pop PySem.F.type_list_pop pqA (pv 3) (aqa (aqr aqN (aqr aqM (pv 6) aqc) (aqs (aqw (K := K) rfl) rfl g.bqq PySem.boot_len (aqa (pv 3) aqb))) aqb)) (aqa (aqr aqM (pv 6) aqc) (aqa (pv 2) aqb)))) aqb)))) (aqf (cqh (cqx (K := K) rfl PySem.F.plainAttrs_list PySem.F.slot_list_append PySem.F.type_list_append aq2 (pv 4) (aqa (aq8 (aqa aqv (aqa (aqk (dqa g) (hr.mono (by decide)) rfl g.cq1 g.bq6.kp g.cq8 .nil pass0 (aqa (aqr aqM (pv 6) aqc) (aqa (pv 2) (aqa (aqr (aqz (K := K)) aqc (aqr aqN (aqr aqM (pv 6) aqc) aqc)) aqb)))) aqb))) aqb))))))))
   (aqX (aqB (aql lqC (aqr aqN (aqr aqM (aqp (aqe (K := K) rfl) (pv 1) aqc (fun _ _=>rfl)) aqc) aqc) aqc (nomark _))
    (aqf (aqx (i := 4) bqJ.nd rfl (Or.inl rfl) (aqr (aqz (K := K)) (pv 4) (dqu (fx := []) (fr := []) rfl rfl (by decide +kernel) rfl (by decide +kernel) rfl (by decide +kernel) rfl .nil rfl (gqR (K := K) rfl (aqp (aqe (K := K) rfl) (pv 0) aqc (fun _ _=>rfl))) (fun _ _ _=>(fq9 (aql aqK (aqp (aqe (K := K) rfl) (pv 0) aqc (fun _ _=>rfl)) aqv (nomark _)))) (fun _ _ _=>(pv 0)))))) aqu)
   (aqf (aqn (aq8 (aqa (aqG (cq7 (K := K) rfl) rfl g.eqB dq0 (aqa (pv 4) aqb)) (aqa (oqw (aqC (iqX hr.units) (pv 4) (aqL aqb) (nomark _)) (bqZ (aqC aqK (aqr aqN (aqr aqM (aqp (aqe (K := K) rfl) (pv 1) aqc (fun _ _=>rfl)) aqc) aqc) aqc (nomark _)))) aqb))))))))),?_⟩
  walk_at "rd"
  have hxl := hx.length
  have kwin : ∀ c : Pc,(!inV (V.str c.kw) [V.str (Str.ofString "step"),V.str (Str.ofString "rest")]) = (!c.isStep && !c.isRest) := fun c=>by
   have k_step : (!inV (V.str (Str.ofString "step")) [V.str (Str.ofString "step"),V.str (Str.ofString "rest")]) = (!true && !false) := by decide +kernel
   have k_part : (!inV (V.str (Str.ofString "part")) [V.str (Str.ofString "step"),V.str (Str.ofString "rest")]) = (!false && !false) := by decide +kernel
   have k_number : (!inV (V.str (Str.ofString "number")) [V.str (Str.ofString "step"),V.str (Str.ofString "rest")]) = (!false && !false) := by decide +kernel
   have k_word : (!inV (V.str (Str.ofString "word")) [V.str (Str.ofString "step"),V.str (Str.ofString "rest")]) = (!false && !false) := by decide +kernel
   have k_gap : (!inV (V.str (Str.ofString "gap")) [V.str (Str.ofString "step"),V.str (Str.ofString "rest")]) = (!false && !false) := by decide +kernel
   have k_rest : (!inV (V.str (Str.ofString "rest")) [V.str (Str.ofString "step"),V.str (Str.ofString "rest")]) = (!false && !true) := by decide +kernel
   cases c <;> first | exact k_step | exact k_part | exact k_number | exact k_word | exact k_gap | exact k_rest
  refine ⟨fun σ H1=>Same H H1 /\ ∃ (lg : Addr) (gs : List Pc) (gv : List V),σ = [some (.ref p),some (.ref pc),some (tV sg),some (.ref lg),none,none,none] /\ H lg = none /\ H1 lg = some (.lst gv) /\ PcT H1 gs gv /\ gs.length <= 6 /\ ∀ c ∈ gs,c ∈ cs /\ c.isStep = false /\ c.isRest = false,?_,?_⟩
  ·refine ⟨_,_,.inr (.of hp),aqi (j := 0) rfl,q,rfl,⟨_,.of hq⟩,fun l0 n0=>?_⟩
   refine gqx (fun i=>match cs[i]? with | some c=>!c.isStep && !c.isRest | none=>false) (fun i=>xs[i]?.getD .non) (.of hq) (aqq (by omega)) n0 (fun i x hxi H1 R s1 hR=>?_) (fun i x hxi ht H1 T s1 hT=>?_) (fun H1 s1 hl0=>?_)
   ·obtain ⟨c,pp,hc,rfl,hpp⟩ := hx.get hxi
    rw [hc] at hR
    walk_at "rd"
    refine ⟨_,_,.inr (.of (s1 _ _ hpp)),c.at0,by decide,fun p2 H2 n2 s2 hp2=>⟨p2,_,rfl,.inr (.of hp2),rfl,by decide +kernel,_,rfl,?_⟩⟩
    rw [if_pos rfl,kwin c]
    exact hR H2 s2
   ·rw [hxi] at hT
    walk_at "rd"
    exact hT H1 (Same.refl _)
   ·have hpk := (hx.mono s1.toT).pick ((List.range xs.length).filter fun i=>match cs[i]? with | some c=>!c.isStep && !c.isRest | none=>false) (fun i hi=>List.mem_range.mp (List.mem_filter.mp hi).1)
    refine ⟨s1,l0,_,_,rfl,n0,hl0,hpk,?_,fun c hc=>?_⟩
    ·rw [List.length_map]
     refine Nat.le_trans (List.length_filter_le _ _) ?_
     rw [List.length_range]; omega
    ·obtain ⟨i,hi,rfl⟩ := List.mem_map.mp hc
     obtain ⟨h1,h2⟩ := List.mem_filter.mp hi
     rw [List.mem_range] at h1
     have hci : cs[i]? = some cs[i] := List.getElem?_eq_getElem (by omega)
     rw [hci] at h2 ⊢
     have h2 : (!cs[i].isStep && !cs[i].isRest) = true := h2
     rw [Bool.and_eq_true] at h2
     exact ⟨List.getElem_mem _,by simpa using h2.1,by simpa using h2.2⟩
  rintro σ H1 ⟨s1,lg,gs,gv,rfl,hlgn,hlg,hgP,hgn,hgc⟩
  walk_at "rd"
  refine ⟨fun σ H2=>Same H H2 /\ ∃ lp : Addr,σ = [some (.ref p),some (.ref pc),some (tV sg),some (.ref lg),some (.ref lp),none,none] /\ H lp = none /\ lp ≠ lg /\ H2 lp = some (.lst []) /\ H2 lg = some (.lst gv) /\ PcT H2 gs gv,⟨by decide,fun lp H2 n2 s2 hlp=>⟨s1.trans s2,lp,rfl,jq2 s1 n2,(fun z=>by rw [z,hlg] at n2; cases n2),hlp,s2 _ _ hlg,hgP.mono s2.toT⟩⟩,?_⟩
  clear hlg hgP s1 H1
  rintro σ H2 ⟨s2,lp,rfl,hlpn,hne,hlp,hlg,hgP⟩
  walk_at "rd"
  obtain ⟨hd0,hhd⟩ : ∃ z,is[0]? = some z := ⟨_,List.getElem?_eq_getElem (by omega)⟩
  have hcell0 : atI (is.map V.int) 0 = some (.int hd0) := aqi (j := 0) (by rw [List.getElem?_map,hhd]; rfl)
  obtain ⟨M,eM,hM⟩ : ∃ m : Nat,hd0 % 4 = (m : Int) /\ m <= 3 := ⟨(hd0 % 4).toNat,by omega,by omega⟩
  refine ⟨_,_,.inl (.of (s2 _ _ hpc)),hcell0,rd_I.mpr ⟨by decide,_,rfl,?_⟩⟩
  rw [eM]
  refine ⟨by omega,by omega,?_⟩
  rw [Int.toNat_natCast]
  refine cqf (fun i σ H' => Same H H' /\ ∃ (gs ds : List Pc) (gv us : List V) (v5 v6 : Option V),σ = [some (.ref p),some (.ref pc),some (tV sg),some (.ref lg),some (.ref lp),v5,v6] /\ H' lg = some (.lst gv) /\ H' lp = some (.lst us) /\ PcT H' gs gv /\ PcT H' ds us /\ gs.length <= 6 /\ (∀ c ∈ gs,c ∈ cs /\ c.isStep = false /\ c.isRest = false) /\ ds.length = i /\ ∀ c ∈ ds,PcOk c /\ PcSg c /\ c.isRest = false /\ GoK cs c) ⟨s2,gs,[],gv,[],none,none,rfl,hlg,hlp,hgP,.nil,hgn,hgc,rfl,fun c hc=>by cases hc⟩ ?_ ?_
  ·rintro i σ H3 hi ⟨s3,gs,ds,gv,us,v5,v6,rfl,hlg3,hlp3,hgP3,hdP3,hgn3,hgc3,hdl3,hdo3⟩
   walk_at "rd"
   obtain ⟨cc,hcc⟩ : ∃ z,is[1 + i]? = some z := ⟨_,List.getElem?_eq_getElem (by omega)⟩
   refine ⟨_,_,.inl (.of (s3 _ _ hpc)),by rw [show (1 + (0 + (i : Int))) = ((1 + i : Nat) : Int) by omega]; exact aqi (by rw [List.getElem?_map,hcc]; rfl),?_⟩
   walk_at "rd"
   have hmo : 0 <= cc * 69621 % 2147483629 := Int.emod_nonneg _ (by decide)
   refine ⟨.inr ⟨by decide,by decide⟩,by decide,?_⟩
   generalize cc * 69621 % 2147483629 = mo at hmo
   refine ⟨by decide,fun p4 H4 n4 s4 hp4=>?_⟩
   have s04 := s3.trans s4
   have hgv := hgP3.length
   have huv := hdP3.length
   refine ⟨.list (gs.map pcD),.list [],.lst (s4 _ _ hlg3) (hgP3.mono s4.toT).isT.is,.lst hp4 .nil,(layL (n := 1) fun d hd=>by obtain ⟨c,hc,rfl⟩ := List.mem_map.mp hd; exact jqB (hsg c (hgc3 c hc).1)).shaped (by decide),by decide,_,rfl,?_⟩
   refine ite2 (fun hg=>⟨by decide,ite2 (fun h3=>?_) (fun _=>?_)⟩) (fun _=>?_)
   ·have hpos : 0 < gs.length := by
     cases gs with
     | nil=>exact absurd hg (by decide)
     | cons a b=>exact Nat.succ_pos _
    have hlg4 := s4 _ _ hlg3
    have hlp4 := s4 _ _ hlp3
    obtain ⟨j,hj,ej⟩ : ∃ j : Nat,j < gv.length /\ mo / 3 % (gv.length : Int) = (j : Int) := by
     have h1 := Int.emod_nonneg (mo / 3) (show (gv.length : Int) ≠ 0 by omega)
     have h2 := Int.emod_lt_of_pos (mo / 3) (show (0 : Int) < (gv.length : Int) by omega)
     exact ⟨(mo / 3 % (gv.length : Int)).toNat,by omega,by omega⟩
    obtain ⟨y,hy⟩ : ∃ y,gv[j]? = some y := ⟨_,List.getElem?_eq_getElem hj⟩
    obtain ⟨c,pp,hc,rfl,hpp⟩ := (hgP3.mono s4.toT).get hy
    have hcg := hgc3 c (List.mem_of_getElem? hc)
    refine ⟨⟨_,.of hlp4⟩,⟨_,.of hlg4⟩,⟨by decide,by decide⟩,gv,.inl (.of hlg4),by omega,gv,j,.ref pp,hlg4,?_⟩
    rw [ej]
    refine ⟨by omega,by omega,oqI hj,hy,⟨by decide,by decide⟩,?_⟩
    have t5 : SameT H4 (upd H4 lg (.lst (gv.eraseIdx j))) := dqE hlg4
    have s5 : Same H (upd H4 lg (.lst (gv.eraseIdx j))) := eqf s04 hlgn
    have hlg5 : upd H4 lg (.lst (gv.eraseIdx j)) lg = some (.lst (gv.eraseIdx j)) := aqj
    have hlp5 : upd H4 lg (.lst (gv.eraseIdx j)) lp = some (.lst us) := by rw [aqo hne]; exact hlp4
    have hgP5 := ((hgP3.mono s4.toT).mono t5).erase j
    have hdP5 := (hdP3.mono s4.toT).mono t5
    have hpp5 := t5 _ _ hpp
    generalize upd H4 lg (.lst (gv.eraseIdx j)) = H5 at t5 s5 hlg5 hlp5 hgP5 hdP5 hpp5
    refine ⟨c,pp,mo / 32,sg,rfl,hpp5,hpo.1 c hcg.1,hcg.2.1,hcg.2.2,hg0,hgl,hgs,fun c' p' H6 oc' st' rs' nm' pt1' pt2' s6 hp6=>?_⟩
    refine ⟨_,s6 _ _ hlp5,Nat.lt_of_lt_of_le (show us.length < 100000 by omega) (aqq (Nat.le_refl _)),?_⟩
    have t6 : SameT H6 (upd H6 lp (.lst (us ++ [.ref p']))) := dqE (s6 _ _ hlp5)
    refine ⟨eqf (s5.trans s6) hlpn,gs.eraseIdx j,ds ++ [c'],gv.eraseIdx j,us ++ [.ref p'],_,_,⟨rfl,rfl⟩,by rw [aqo (Ne.symm hne)]; exact s6 _ _ hlg5,aqj,(hgP5.mono s6.toT).mono t6,PcT.append (.cons (t6 _ _ hp6) .nil) ((hdP5.mono s6.toT).mono t6),?_,fun z hz=>hgc3 z (List.mem_of_mem_eraseIdx hz),by rw [List.length_append,hdl3]; rfl,fun z hz=>?_⟩
    ·rw [List.length_eraseIdx]; split <;> omega
    ·rcases List.mem_append.mp hz with y | y
     ·exact hdo3 z y
     ·rw [List.mem_singleton.mp y]
      refine ⟨oc',jqv oc' fun x hx=>by rw [nm'] at hx; exact (hsg c hcg.1).2.2 x hx,rs',.inr ⟨c,hcg.1,hcg.2.1,st',nm',?_⟩⟩
      cases hpt : c.isPart with
      | true=>exact .inl ⟨rfl,pt1' hpt⟩
      | false=>exact .inr (pt2' hpt)
   all_goals
    obtain ⟨m6,e6,h6⟩ : ∃ m : Nat,1 + mo / 64 % 2 = (m : Int) /\ 1 <= m /\ m <= 2 := ⟨(1 + mo / 64 % 2).toNat,by omega,by omega,by omega⟩
    have hlg4 := s4 _ _ hlg3
    have hlp4 := s4 _ _ hlp3
    rw [e6]
    refine ⟨⟨_,.of hlp4⟩,⟨by decide,by decide⟩,⟨by decide,by decide⟩,by decide,_,sg,m6,rfl,hg0,hgl,by omega,by omega,fun l l0 l1 _ l2 l3=>⟨by decide,fun p' H6 n6 s6 hp6=>?_⟩⟩
    have hls : ∀ x ∈ l,isSg x = true := fun x hx=>(l2 x hx).elim (hgs x) (fun z=>by rw [z.2]; decide)
    have oc' : PcOk (.step l) := ⟨l0,by omega,hls,l3⟩
    refine ⟨_,s6 _ _ hlp4,Nat.lt_of_lt_of_le (show us.length < 100000 by omega) (aqq (Nat.le_refl _)),?_⟩
    have t6 : SameT H6 (upd H6 lp (.lst (us ++ [.ref p']))) := dqE (s6 _ _ hlp4)
    refine ⟨eqf (s04.trans s6) hlpn,gs,ds ++ [.step l],gv,us ++ [.ref p'],_,_,⟨rfl,rfl⟩,by rw [aqo (Ne.symm hne)]; exact s6 _ _ hlg4,aqj,(hgP3.mono (s4.trans s6).toT).mono t6,PcT.append (.cons (t6 _ _ hp6) .nil) ((hdP3.mono (s4.trans s6).toT).mono t6),hgn3,hgc3,by rw [List.length_append,hdl3]; rfl,fun z hz=>?_⟩
    rcases List.mem_append.mp hz with y | y
    ·exact hdo3 z y
    ·rw [List.mem_singleton.mp y]
     exact ⟨oc',jqv oc' fun x hx=>absurd (show x ∈ ([] : List Nat) from hx) List.not_mem_nil,rfl,.inl rfl⟩
  ·rintro σ H3 ⟨s3,gs,ds,gv,us,v5,v6,rfl,hlg3,hlp3,hgP3,hdP3,hgn3,hgc3,hdl3,hdo3⟩
   walk_at "rd"
   refine ⟨fun σ H4=>Same H H4 /\ ∃ (l : Addr) (zs : List Pc) (us : List V) (v5 v6 : Option V),σ = [some (.ref p),some (.ref pc),some (tV sg),some (.ref lg),some (.ref l),v5,v6] /\ H4 l = some (.lst us) /\ PcT H4 zs us /\ zs.length <= 4 /\ (∀ c ∈ zs,PcOk c /\ PcSg c) /\ (zs.filter Pc.isRest).length <= 1 /\ ∀ d ∈ zs,GoK cs d,?_,?_⟩
   ·have nor : ds.filter Pc.isRest = [] := List.filter_eq_nil_iff.mpr fun c hc=>by rw [(hdo3 c hc).2.2.1]; decide
    have hdl : ds.length <= 3 := by omega
    refine ⟨_,_,.inl (.of (s3 _ _ hpc)),hcell0,rd_I.mpr ⟨⟨by decide,by decide⟩,?_⟩⟩
    walk_at "rd"
    refine ⟨by decide,ite2 (fun _=>?_) (fun _=>⟨s3,lp,ds,us,v5,v6,⟨rfl,rfl,rfl⟩,hlp3,hdP3,by omega,fun c hc=>⟨(hdo3 c hc).1,(hdo3 c hc).2.1⟩,by rw [nor]; exact Nat.zero_le _,fun c hc=>(hdo3 c hc).2.2.2⟩)⟩
    refine ⟨_,_,.inr (.of (s3 _ _ hp)),aqi (j := 0) rfl,q,rfl,⟨_,.of (s3 _ _ hq)⟩,fun l0 n0=>?_⟩
    have hx3 := hx.mono s3.toT
    refine gqx (fun i=>match cs[i]? with | some c=>c.isRest | none=>false) (fun i=>xs[i]?.getD .non) (.of (s3 _ _ hq)) (aqq (by omega)) n0 (fun i x hxi H4 R s4 hR=>?_) (fun i x hxi ht H4 T s4 hT=>?_) (fun H4 s4 hl0=>?_)
    ·obtain ⟨c,pp,hc,rfl,hpp⟩ := hx3.get hxi
     rw [hc] at hR
     walk_at "rd"
     refine ⟨_,_,.inr (.of (s4 _ _ hpp)),c.at0,aqt.mpr ⟨_,rfl,?_⟩⟩
     rw [dqQ]
     exact hR H4 (Same.refl _)
    ·rw [hxi] at hT
     walk_at "rd"
     exact hT H4 (Same.refl _)
    ·have hpk := (hx3.mono s4.toT).pick ((List.range xs.length).filter fun i=>match cs[i]? with | some c=>c.isRest | none=>false) (fun i hi=>List.mem_range.mp (List.mem_filter.mp hi).1)
     have fil : ∀ i ∈ (List.range xs.length).filter (fun i=>match cs[i]? with | some c=>c.isRest | none=>false),∃ c,cs[i]? = some c /\ c.isRest = true := fun i hi=>by
      obtain ⟨h1,h2⟩ := List.mem_filter.mp hi
      rw [List.mem_range] at h1
      have hci : cs[i]? = some cs[i] := List.getElem?_eq_getElem (by omega)
      rw [hci] at h2
      exact ⟨_,hci,h2⟩
     have one : ((List.range xs.length).filter (fun i=>match cs[i]? with | some c=>c.isRest | none=>false)).length <= 1 := sqP (a := cs.length - 1) (List.nodup_range.filter _) fun i hi=>by
      obtain ⟨c,h1,h2⟩ := fil i hi
      have := hpo.2 i c h1 h2
      omega
     generalize (List.range xs.length).filter (fun i=>match cs[i]? with | some c=>c.isRest | none=>false) = il at hpk hl0 fil one
     have hml : (il.map fun i=>cs[i]?.getD (.gap [])).length <= 1 := by rw [List.length_map]; exact one
     have hmv : (il.map fun i=>xs[i]?.getD .non).length <= 1 := by rw [List.length_map]; exact one
     have huv := hdP3.length
     refine .inl ⟨_,_,s4 _ _ hlp3,hl0,aqq (by omega),fun l5 H5 n5 s5 hl5=>?_⟩
     refine ⟨s3.trans (s4.trans s5),l5,ds ++ il.map fun i=>cs[i]?.getD (.gap []),_,v5,v6,⟨rfl,rfl,rfl⟩,hl5,PcT.append (hpk.mono s5.toT) (hdP3.mono (s4.trans s5).toT),by rw [List.length_append]; omega,fun c hc=>?_,?_,fun c hc=>?_⟩
     ·rcases List.mem_append.mp hc with y | y
      ·exact ⟨(hdo3 c y).1,(hdo3 c y).2.1⟩
      ·obtain ⟨i,hi,rfl⟩ := List.mem_map.mp y
       obtain ⟨c,h1,h2⟩ := fil i hi
       rw [h1]
       exact ⟨hpo.1 c (List.mem_of_getElem? h1),hsg c (List.mem_of_getElem? h1)⟩
     ·rw [List.filter_append,nor,List.nil_append]
      exact Nat.le_trans (List.length_filter_le _ _) hml
     ·rcases List.mem_append.mp hc with y | y
      ·exact (hdo3 c y).2.2.2
      ·obtain ⟨i,hi,rfl⟩ := List.mem_map.mp y
       obtain ⟨c,h1,h2⟩ := fil i hi
       rw [h1]
       have hns : c.isStep = false := by cases c <;> first | rfl | cases h2
       exact .inr ⟨c,List.mem_of_getElem? h1,hns,hns,rfl,.inr rfl⟩
   ·rintro σ H4 ⟨s4,l,zs,us,v5,v6,rfl,hl4,hP4,hzl,hzo,hzr,hzk⟩
    walk_at "rd"
    refine ⟨_,.inl (.of hl4),fun t5 H5 s5 ht5=>⟨by decide,fun p6 H6 n6 s6 hp6=>?_⟩⟩
    have s46 := s5.trans s6
    refine ⟨.list (zs.map pcD),.list [],.lst (s46 _ _ hl4) (hP4.mono s46.toT).isT.is,.lst hp6 .nil,(layL (n := 1) fun d hd=>by obtain ⟨c,hc,rfl⟩ := List.mem_map.mp hd; exact jqB (hzo c hc).2).shaped (by decide),by decide,_,rfl,?_⟩
    have fin : ∀ (b : Bool) (p7 : Addr) (H7 : Hp),Same H6 H7 -> H7 p7 = some (.tup [.ref t5,.bl b]) -> Q (.ref p7) H7 := fun b p7 H7 s7 hp7=>k zs b p7 H7 hzl hzo hzr hzk (s4.trans (s46.trans s7)) ⟨t5,us,hp7,(s6.trans s7) _ _ ht5,hP4.mono (s46.trans s7).toT⟩
    refine ite2 (fun _=>⟨by decide,fun p7 H7 n7 s7 hp7=>fin _ p7 H7 s7 hp7⟩) (fun _=>⟨_,_,.inl (.of ((s4.trans s46) _ _ hpc)),hcell0,rd_I.mpr ⟨⟨by decide,by decide⟩,rd_I.mpr ⟨by decide,oqK.mpr ?_⟩⟩⟩)
    exact ⟨by decide,fun p7 H7 n7 s7 hp7=>fin _ p7 H7 s7 hp7⟩
theorem rqh (g : G K mg) : FnOk P w K mg base CX0 4 g.mqp g.jqQ ["pattern", "way"] (qqJ K) := by
 refine g.oqr.ok lqh (fun vs H Q E h=>?_) (fun cdv A outer s H vs Q E hr h=>?_)
 ·obtain ⟨cs,xs,p,q,pw,ps,cl,r,e,ss,rfl,_⟩ := h; rfl
 ·obtain ⟨cs,xs,p,q,pw,ps,cl,r,e,ss,rfl,hp,hq,hx,hn,hz,hw,hps,hsn,hsl,k⟩ := h
  refine ⟨_,(aqh (aqx (i := 2) lqh.nd rfl (Or.inl rfl) (aqp (aqe (K := K) rfl) (pv 1) (aqW (v := nq6) rfl g.lqv ⟨_,rfl⟩) (fun _ _=>rfl)))
   (aqX (aqx (i := 3) lqh.nd rfl (Or.inl rfl) (aqk (nqU g) (hr.mono (by decide)) rfl g.lq8 g.jqu.kp g.mqx .nil pass0 (aqa (pv 0) (aqa (aqs (aqw (K := K) rfl) rfl g.bqq PySem.boot_len (aqa (pv 2) aqb)) aqb))))
   (aqh (aqB (PW.pt (eqn (aql jqR (pv 3) cqz (nomark _)) (eqn (bqG (bqc (aqp (aqe (K := K) rfl) (pv 1) (aqW (v := pqY) rfl g.mqc ⟨_,rfl⟩) (fun _ _=>rfl)))) (cq4 (aql hqX (aqp (aqe (K := K) rfl) (pv 1) (aqW (v := sqW) rfl g.pq7 ⟨_,rfl⟩) (fun _ _=>rfl)) (aqp (aqe (K := K) rfl) (pv 0) (aqW (v := mqg) rfl g.jqN ⟨_,rfl⟩) (fun _ _=>rfl)) (nomark _))))))
    (aqf (aqn cqV)) aqu)
   (aqf (aqn (aqs (iqi (K := K) rfl rfl) rfl g.pqw PyProof.Rows.boot_all (aqa (oqi (K := K) (fx := []) (fr := []) rfl rfl rfl (by decide +kernel) rfl (by decide +kernel) rfl rfl (by decide +kernel) rfl .nil rfl (tqa (K := K) rfl rfl g.sqb (aqa (pv 3) (aqa (pv 2) aqb))) (fun _ _ _=>jqf) (fun _ _ _=>(aqk (lqa g) (hr.mono (by decide)) rfl g.iqq g.fqy.kp g.iqp .nil pass0 (aqa (pv 0) (aqa (pv 1) aqb))))) aqb))))))),?_⟩
  walk_at "rd"
  refine ⟨_,_,.inr hw,aqi (j := 1) rfl,?_⟩
  refine ⟨fun σ H1=>Same H H1 /\ ((spreadM cs ss.length = none /\ σ = [some (.ref p),some (.ref pw),some (.ref ps),some .non]) \/ ∃ (ds : List Pc) (ys : List V) (r' : Addr),spreadM cs ss.length = some ds /\ SqT K H1 r' ys /\ PcAll K H1 ds ys /\ σ = [some (.ref p),some (.ref pw),some (.ref ps),some (.ref r')]),?_,?_⟩
  ·walk_at "rd"
   refine ⟨_,.inr hps,?_⟩
   rw [List.length_map]
   exact ⟨cs,xs,p,q,cl,ss.length,rfl,hp,hq,hx,hn,hsn,fun h=>⟨Same.refl _,.inl ⟨h,rfl⟩⟩,fun ds ys r' H1 h s1 h1 h2=>⟨s1,.inr ⟨ds,ys,r',h,h1,h2,rfl⟩⟩⟩
  rintro σ H1 ⟨s1,⟨h0,rfl⟩ | ⟨ds,ys,r',h0,hr',hy,rfl⟩⟩
  ·walk_at "rd"
   have e : fitsP cs cl r ss e = false := by unfold fitsP; rw [h0]
   rw [e] at k
   exact k H1 s1
  have ef : fitsP cs cl r ss e = (r && decide (e = cl) && (List.zipWith fitsM ds ss).all id) := by unfold fitsP; rw [h0]
  have hw1 := s1.tup hw
  have hp1 := s1.tup hp
  have hps1 := s1.tup hps
  walk_at "rd"
  refine ⟨_,_,.inr hw1,aqi (j := 0) rfl,r,rfl,?_⟩
  cases r with
  | false =>
   refine ite2 (fun _=>?_) (fun z=>absurd rfl z)
   rw [ef] at k
   exact k H1 s1
  | true =>
   refine ite2 (fun z=>by cases z) (fun _=>?_)
   refine ⟨_,_,.inr hw1,aqi (j := 2) rfl,_,_,.inr hp1,aqi (j := 1) rfl,?_⟩
   refine L2.lqN.mpr ⟨_,rfl,?_⟩
   by_cases hec : e = cl
   ·rw [decide_eq_true hec] at ef
    refine ite2 (fun z=>by rw [decide_eq_true hec] at z; cases z) (fun _=>?_)
    refine ⟨r',ps,ys,ss.map tV,⟨rfl,rfl⟩,hr',hps1,fun pc nc=>?_⟩
    have hyl := hy.length
    have hdl := iqU h0
    refine pqG (zs := (List.zipWith fitsM ds ss).map V.bl) hr' hps1 (aqq (by rw [List.length_map,List.length_zipWith]; omega)) nc (by rw [List.length_map,List.length_zipWith,List.length_map,hyl]) (fun i x y z hx' hy' hz' H2 T s2 hT=>?_) (fun H2 s2 e2=>?_)
    ·obtain ⟨c,p',hc,rfl,hcp⟩ := hy.get hx'
     obtain ⟨s,hs,rfl⟩ : ∃ s,ss[i]? = some s /\ tV s = y := by
      rw [List.getElem?_map] at hy'
      cases hs : ss[i]? with
      | none=>rw [hs] at hy'; cases hy'
      | some s=>rw [hs] at hy'; exact ⟨s,rfl,by simpa using hy'⟩
     have hz' : V.bl (fitsM c s) = z := by
      rw [List.getElem?_map,List.getElem?_zipWith,hc,hs] at hz'
      simpa using hz'
     subst hz'
     obtain ⟨z1,z2⟩ := hz c (mqI h0 c (List.mem_of_getElem? hc))
     walk_at "rd"
     exact ⟨c,s,p',rfl,s2.tup hcp,hsl s (List.mem_of_getElem? hs),z1,z2,hT⟩
    ·refine ⟨pc,_,rfl,.of e2,?_⟩
     rw [ef] at k
     exact k H2 (s1.trans s2)
   ·rw [decide_eq_false hec] at ef
    refine ite2 (fun _=>?_) (fun z=>by rw [decide_eq_false hec] at z; exact absurd rfl z)
    rw [ef] at k
    exact k H1 s1
theorem iqI (g : G K mg) : FnOk P w K mg base CX0 4 g.cqG g.cqn ["thing"] (iqA K) := by
 refine g.eqg.ok iqQ (fun vs H Q E h=>?_) (fun cdv A outer s H vs Q E hr h=>?_)
 ·obtain ⟨d,v,rfl,_⟩ := h; rfl
 ·obtain ⟨d,v,rfl,hv,hs,k⟩ := h
  refine ⟨_,(aqf (aqn (cq5 (aqk (dqJ g) (hr.mono (by decide)) rfl g.cqu g.bqy.kp g.cqv .nil pass0 (aqa (pv 0) aqb)) (bqZ (lq7 (aqk (hqQ g) (hr.mono (by decide)) rfl g.hqt g.gqe.kp g.hqm .nil pass0 (aqa (pv 0) aqb))))))),?_⟩
  walk_at "rd"
  refine ⟨d,v,rfl,hv,hs,fun H1 s1=>⟨_,rfl,?_⟩⟩
  have k1 := k H1 s1
  cases hv with
  | str z =>
   have e : canD (.str z) = (ftx (.str z) && !isDot z.cps.toList) := rfl
   rw [e] at k1
   refine ite2 (fun hf=>?_) (fun hf=>?_)
   ·rw [hf,Bool.true_and] at k1
    exact ⟨z.cps.toList,rfl,_,rfl,k1⟩
   ·rw [Bool.eq_false_iff.mpr hf,Bool.false_and] at k1
    exact k1
  | _=>exact ite2 (fun z=>by cases z) (fun _=>k1)
theorem hq9 (g : G K mg) : FnOk P w K mg base CX0 4 g.cqj g.bqS ["_law_cells_here", "_law_names_here", "_law_signs_here"] (hqD K) := by
 refine g.dqw.ok bqX (fun vs H Q E h=>?_) (fun cdv A outer s H vs Q E hr h=>?_)
 ·obtain ⟨pc,pn,gg,ns,is,rfl,_⟩ := h; rfl
 ·obtain ⟨pc,pn,gg,ns,is,rfl,hpc,hil,hpn,hnl,hnd,hns,hg0,hg1,hgs,k⟩ := h
  refine ⟨_,(aqh (aqx (i := 3) bqX.nd rfl (Or.inl rfl) (aqp (aqe (K := K) rfl) (pv 0) aqc (fun _ _=>rfl)))
   (aqh (aqx (i := 4) bqX.nd rfl (Or.inl rfl) (aqL aqb))
   (aqX (cqW PassesOwn.never rfl (bqs rfl g.cq2 (aqa (aqr aqN (pv 3) aqc) aqb)) (aqF (i := 5) bqX.nd rfl (Or.inl rfl))
   (aqf (cqh (cqx (K := K) rfl PySem.F.plainAttrs_list PySem.F.slot_list_append PySem.F.type_list_append aq2 (pv 4) (aqa (aqk (jqA g) (hr.mono (by decide)) rfl g.gq0 g.eqw.kp g.gq1 .nil pass0 (aqa (aqp (aqe (K := K) rfl) (pv 0) (aqr (aqz (K := K)) aqc (pv 5)) (fun _ _=>rfl)) (aqa (aqp (aqe (K := K) rfl) (pv 1) (pv 5) (fun _ _=>rfl)) (aqa (pv 2) aqb)))) aqb)))))
   (aqX (aqB (aql aqK (aqr aqN (aqr aqM (pv 3) aqc) aqc) aqc (nomark _))
    (aqf (cqh (cqx (K := K) rfl PySem.F.plainAttrs_list PySem.F.slot_list_append PySem.F.type_list_append aq2 (pv 4) (aqa (aq8 (aqa aqv (aqa (aqp (aqe (K := K) rfl) (pv 1) aqc (fun _ _=>rfl)) aqb))) aqb)))) aqu)
   (aqf (aqn (aq8 (aqa (aqG (cq7 (K := K) rfl) rfl g.eqB dq0 (aqa (pv 4) aqb)) (aqa (oqw (aqC (iqX hr.units) (pv 4) (aqL aqb) (nomark _)) (bqZ (aqC aqK (aqr aqN (aqr aqM (pv 3) aqc) aqc) aqc (nomark _)))) aqb))))))))),?_⟩
  walk_at "rd"
  have ix : ∀ (j : Nat) (hj : j < is.length),atI (is.map V.int) (j : Int) = some (.int is[j]) := fun j hj=>aqi (by rw [List.getElem?_map,List.getElem?_eq_getElem hj]; rfl)
  have nx : ∀ (j : Nat) (hj : j < ns.length),atI (ns.map tV) (j : Int) = some (tV ns[j]) := fun j hj=>aqi (by rw [List.getElem?_map,List.getElem?_eq_getElem hj]; rfl)
  refine ⟨_,.int is[0],.inl (.of hpc),ix 0 (by omega),by decide,fun p1 H1 n1 s1 hp1=>?_⟩
  generalize is[0] = hd
  obtain ⟨m,hm,hm5⟩ : ∃ m : Nat,hd % 6 = (m : Int) /\ m <= 5 := ⟨(hd % 6).toNat,by omega,by omega⟩
  refine ⟨fun σ H' => SameBut p1 H H' /\ ∃ (v5 : Option V) (ps : List Pc) (xs : List V),σ = [some (.ref pc),some (.ref pn),some (tV gg),some (.int hd),some (.ref p1),v5] /\ PcT H' ps xs /\ H' p1 = some (.lst xs) /\ ps.length <= 5 /\ (∀ x ∈ ps,PcOk x /\ x.isRest = false) /\ (∀ (i : Nat) (x : Pc),ps[i]? = some x -> x.isStep = false -> ns[i]? = some x.name),rd_I.mpr ⟨by decide,_,rfl,by omega,by omega,?_⟩,?_⟩
  ·rw [hm,Int.toNat_natCast]
   refine cqf (fun i σ H' => SameBut p1 H H' /\ ∃ (v5 : Option V) (ps : List Pc) (xs : List V),σ = [some (.ref pc),some (.ref pn),some (tV gg),some (.int hd),some (.ref p1),v5] /\ PcT H' ps xs /\ H' p1 = some (.lst xs) /\ ps.length = i /\ (∀ x ∈ ps,PcOk x /\ x.isRest = false) /\ (∀ (i : Nat) (x : Pc),ps[i]? = some x -> x.isStep = false -> ns[i]? = some x.name)) ⟨Same.but s1,none,[],[],rfl,.nil,hp1,rfl,(fun x hx=>by cases hx),fun i x hx=>by cases hx⟩ ?_ ?_
   ·rintro i σ H2 hi ⟨sb,v5,ps,xs,rfl,hP,hl2,hpl,hok,hnm⟩
    have s2 := sb.same n1
    have hxl := hP.length
    walk_at "rd"
    rw [show (1 + (0 + (i : Int))) = ((i + 1 : Nat) : Int) by omega,show (0 + (i : Int)) = ((i : Nat) : Int) by omega]
    refine ⟨⟨_,.of hl2⟩,_,_,.inl (.of (s2 _ _ hpc)),ix (i + 1) (by omega),_,_,.inl (.of (s2 _ _ hpn)),nx i (by omega),_,ns[i],gg,rfl,hg0,hg1,hgs,fun x b H3 ok1 ok2 ok3 s3 hb=>?_⟩
    have hbp : b ≠ p1 := fun z=>by rw [z,s3 _ _ hl2] at hb; cases hb
    refine ⟨_,s3 _ _ hl2,by rw [hxl]; exact Nat.lt_of_le_of_lt (show ps.length <= 5 by omega) (by decide),(sb.trans s3.but).trans cq6,_,ps ++ [x],xs ++ [.ref b],rfl,?_,aqj,by rw [List.length_append,List.length_singleton,hpl],fun y hy=>?_,fun j y hj hst=>?_⟩
    ·have t3 : SameT H2 (upd H3 p1 (.lst (xs ++ [.ref b]))) := fun d ys e=>by
      rw [aqo (fun z=>by rw [z,hl2] at e; cases e)]
      exact s3 _ _ e
     exact PcT.append (.cons (by rw [aqo hbp]; exact hb) .nil) (hP.mono t3)
    ·rcases List.mem_append.mp hy with z | z
     ·exact hok y z
     ·rw [List.mem_singleton.mp z]; exact ⟨ok1,ok2⟩
    ·by_cases hj2 : j < ps.length
     ·rw [List.getElem?_append_left hj2] at hj
      exact hnm j y hj hst
     ·rw [List.getElem?_append_right (by omega)] at hj
      have hk3 : j - ps.length = 0 := by
       cases hh : j - ps.length with
       | zero=>rfl
       | succ z=>rw [hh] at hj; cases hj
      rw [hk3] at hj
      cases hj
      rw [show j = i by omega,ok3 hst]
      exact List.getElem?_eq_getElem (by omega)
   ·rintro σ H2 ⟨sb,v5,ps,xs,rfl,hP,hl2,hpl,hok,hnm⟩
    exact ⟨sb,v5,ps,xs,rfl,hP,hl2,by omega,hok,hnm⟩
  rintro σ H2 ⟨sb,v5,ps,xs,rfl,hP,hl2,hpl,hok,hnm⟩
  have hxl := hP.length
  walk_at "rd"
  refine ⟨fun σ H' => SameBut p1 H H' /\ ∃ (ps : List Pc) (xs : List V),σ = [some (.ref pc),some (.ref pn),some (tV gg),some (.int hd),some (.ref p1),v5] /\ PcT H' ps xs /\ H' p1 = some (.lst xs) /\ ps.length <= 6 /\ PatOk ps /\ (gapsM ps).Nodup /\ ∀ n ∈ gapsM ps,n ∈ ns,⟨⟨by decide,by decide⟩,by decide,ite2 (fun _=>?_) (fun _=>?_)⟩,?_⟩
  ·have s2 := sb.same n1
   refine ⟨⟨_,.of hl2⟩,_,_,.inl (.of (s2 _ _ hpn)),nx 6 (by omega),by decide,fun p3 H3 n3 s3 hp3=>?_⟩
   have h3p : p3 ≠ p1 := fun z=>by rw [z,s3 _ _ hl2] at hp3; cases hp3
   have t3 : SameT H2 (upd H3 p1 (.lst (xs ++ [.ref p3]))) := fun d ys e=>by
    rw [aqo (fun z=>by rw [z,hl2] at e; cases e)]
    exact s3 _ _ e
   obtain ⟨g1,g2⟩ := gqz (hq0 hnd (r := ps.length) (j := 6) (by omega) (by omega)) (cs := ps ++ [.rest ns[6]]) 0 (fun i c hc hs=>by
    rw [Nat.zero_add]
    by_cases hi : i < ps.length
    ·rw [List.getElem?_append_left hi] at hc
     rw [List.getElem?_append_left (by rw [List.length_take]; omega),List.getElem?_take,if_pos hi]
     exact hnm i c hc hs
    ·have h9 := (List.getElem?_eq_some_iff.mp hc).1
     rw [List.length_append,List.length_singleton] at h9
     have hi3 : i = ps.length := by omega
     subst hi3
     rw [List.getElem?_append_right (Nat.le_refl _),Nat.sub_self] at hc
     cases hc
     rw [List.getElem?_append_right (by rw [List.length_take]; omega),List.length_take,show ps.length - min ps.length ns.length = 0 by omega]
     rfl)
   refine ⟨_,s3 _ _ hl2,by rw [hxl]; exact Nat.lt_of_le_of_lt (show ps.length <= 5 by omega) (by decide),(sb.trans s3.but).trans cq6,ps ++ [.rest ns[6]],xs ++ [.ref p3],rfl,PcT.append (.cons (by rw [aqo h3p]; exact hp3) .nil) (hP.mono t3),aqj,by rw [List.length_append,List.length_singleton]; omega,⟨fun x hx=>?_,fun i x hi hrs=>?_⟩,g1,fun n hn=>?_⟩
   ·rcases List.mem_append.mp hx with z | z
    ·exact (hok x z).1
    ·rw [List.mem_singleton.mp z]; trivial
   ·rw [List.length_append,List.length_singleton]
    by_cases hi2 : i < ps.length
    ·rw [List.getElem?_append_left hi2] at hi
     rw [(hok x (List.mem_of_getElem? hi)).2] at hrs; cases hrs
    ·have h9 := (List.getElem?_eq_some_iff.mp hi).1
     rw [List.length_append,List.length_singleton] at h9
     omega
   ·obtain ⟨j,_,hj⟩ := g2 n hn
    rcases List.mem_append.mp (List.mem_of_getElem? hj) with z | z
    ·exact List.mem_of_mem_take z
    ·rw [List.mem_singleton.mp z]; exact List.getElem_mem _
  ·obtain ⟨g1,g2⟩ := gqz hnd (cs := ps) 0 (fun i c hc hs=>by rw [Nat.zero_add]; exact hnm i c hc hs)
   exact ⟨sb,ps,xs,rfl,hP,hl2,by omega,⟨fun x hx=>(hok x hx).1,fun i x hi hrs=>by rw [(hok x (List.mem_of_getElem? hi)).2] at hrs; cases hrs⟩,g1,fun n hn=>by obtain ⟨j,_,hj⟩ := g2 n hn; exact List.mem_of_getElem? hj⟩
  clear hP hl2 hpl hok hnm hxl sb
  rintro σ H3 ⟨sb,ps,xs,rfl,hP,hl3,hpl,hok,hgn,hgi⟩
  have s3 := sb.same n1
  have hsg : ∀ x ∈ ps,PcSg x := fun x hx=>by
   have ok := hok.1 x hx
   refine ⟨fun l e=>?_,fun a b d e=>?_,fun y hy=>?_⟩
   ·rw [e] at ok; exact ok.2.2.1
   ·rw [e] at ok; exact ⟨ok.2.2.1,ok.2.2.2.1⟩
   ·cases hst : x.isStep with
    | true =>
     cases x with
     | step l=>cases hy
     | _=>cases hst
    | false=>exact hns _ (hgi x.name (by unfold gapsM; exact List.mem_map_of_mem (List.mem_filter.mpr ⟨hx,by simp [hst]⟩))) y hy
  walk_at "rd"
  refine ⟨xs,.inl (.of hl3),fun l H4 s4 hl4=>⟨by decide,fun p5 H5 n5 s5 hp5=>?_⟩⟩
  have s35 := s4.trans s5
  refine ⟨.list (ps.map pcD),.list [],.lst (s35 _ _ hl3) (hP.mono s35.toT).isT.is,.lst hp5 .nil,(jqD hsg).shaped (by decide),by decide +kernel,_,rfl,?_⟩
  rw [eq7,List.isEmpty_map]
  refine ite2 (fun he=>⟨by decide,fun p6 H6 n6 s6 hp6=>?_⟩) (fun he=>⟨⟨by decide,by decide⟩,by decide,by decide,fun p6 H6 n6 s6 hp6=>?_⟩)
  ·exact k ps true p6 l xs H6 hok hpl hgn hgi (fun _=>rfl) ((s3.trans s35).trans s6) ((s5.trans s6) _ _ hl4) (hP.mono (s35.trans s6).toT) hp6
  ·exact k ps _ p6 l xs H6 hok hpl hgn hgi (fun z=>absurd (by rw [z]; rfl) he) ((s3.trans s35).trans s6) ((s5.trans s6) _ _ hl4) (hP.mono (s35.trans s6).toT) hp6
theorem lqj (g : G K mg) : FnOk P w K mg base CX0 4 g.eqW g.dq8 ["_law_pattern_here", "_law_cells_here", "_law_signs_here"] (lqD K) := by
 refine g.gqK.ok dq5 (fun vs H Q E h=>?_) (fun cdv A outer s H vs Q E hr h=>?_)
 ·obtain ⟨cs,e,p,pc,g,is,rfl,_⟩ := h; rfl
 ·obtain ⟨cs,e,p,pc,sg,is,rfl,oc,⟨q,xs,hp,hq,hx⟩,hpc,his,hg0,hgl,hgs,k⟩ := h
  refine ⟨_,(aqh (aqx (i := 3) dq5.nd rfl (Or.inl rfl) (aqG (cqQ (K := K) rfl) rfl g.gqX fqA (aqa (aqp (aqe (K := K) rfl) (pv 0) aqc (fun _ _=>rfl)) aqb)))
   (aqX (aqB (PW.pt (jqc (aql (hq6 hr.units) (pv 3) (aqL aqb) (nomark _)) (gqy (aql aqK (aqp (aqe (K := K) rfl) (aqp (aqe (K := K) rfl) (pv 3) (lqm hqC aqc) (fun _ _=>rfl)) aqc (fun _ _=>rfl)) aqv (nomark _)))))
    (aqf (aqx (i := 3) dq5.nd rfl (Or.inl rfl) (aqr (aqz (K := K)) (pv 3) (aqr rqR (aqL (aqa (aqp (aqe (K := K) rfl) (pv 3) (lqm hqC aqc) (fun _ _=>rfl)) aqb)) (aqr aqN (aqp (aqe (K := K) rfl) (pv 1) aqc (fun _ _=>rfl)) aqc))))) aqu)
   (aqh (mqd (i := 4) (K := K) (fx := ["_law_signs_here", "_law_cells_here"]) (fr := [2,1]) dq5.nd rfl rfl rfl rfl rfl (by decide +kernel) rfl (by decide +kernel) rfl rfl (by decide +kernel) rfl (.cons rfl rfl rfl rfl (.cons rfl rfl rfl rfl .nil)) rfl (mqz (K := K) rfl rfl g.cqX (aqa (pv 3) aqb)) (fun _ _ _=>jqf) (fun _ _ _=>(aqk (jq4 g) (hr.mono (by decide)) rfl g.hq7 g.fqt.kp g.iqw .nil pass0 (aqa (pv 1) (aqa (aqr (aqz (K := K)) (aqp (aqe (K := K) rfl) (pv 3) (aqr aqN (pv 0) aqc) (fun _ _=>rfl)) (aqr cqe aqc (pv 0))) (aqa (pv 2) aqb))))))
   (aqf (aqn (aq8 (aqa cqV (aqa (aqG (cq7 (K := K) rfl) rfl g.eqB dq0 (aqa (pv 4) aqb)) (aqa (aqp (aqe (K := K) rfl) (pv 0) aqc (fun _ _=>rfl)) aqb))))))))),?_⟩
  walk_at "rd"
  have hxl := hx.length
  have hcl := oc.1
  refine ⟨_,_,.inr (.of hp),aqi (j := 0) rfl,?_⟩
  walk_at "rd"
  refine ⟨_,.inr (.of hq),fun l H1 n1 s1 hl=>?_⟩
  have hT : PcT H1 cs xs := hx.mono s1.toT
  refine ⟨fun σ H2=>Same H H2 /\ ∃ (l2 : Addr) (ds : List Pc) (ys : List V),σ = [some (.ref p),some (.ref pc),some (tV sg),some (.ref l2),none] /\ H2 l2 = some (.lst ys) /\ PcT H2 ds ys /\ (∀ c ∈ ds,c ∈ cs) /\ ds.length <= 100 /\ spreadM cs ds.length = some ds,?_,?_⟩
  ·refine ⟨by decide,fun p2 H2 n2 s2 hp2=>?_⟩
   have hl2 := s2 _ _ hl
   refine ⟨.list (cs.map pcD),.list [],.lst hl2 (hT.mono s2.toT).isT.is,.lst hp2 .nil,(jqD fun c hc=>(oc.2 c hc).2).shaped (by decide),by decide +kernel,_,rfl,?_⟩
   rw [eq7]
   have s02 := s1.trans s2
   have hT2 := hT.mono s2.toT
   have keep : hasRest cs = false -> Same H H2 /\ ∃ (l2 : Addr) (ds : List Pc) (ys : List V),[some (V.ref p),some (.ref pc),some (tV sg),some (.ref l),none] = [some (V.ref p),some (.ref pc),some (tV sg),some (.ref l2),none] /\ H2 l2 = some (.lst ys) /\ PcT H2 ds ys /\ (∀ c ∈ ds,c ∈ cs) /\ ds.length <= 100 /\ spreadM cs ds.length = some ds := fun hr =>
    ⟨s02,l,cs,xs,rfl,hl2,hT2,fun c hc=>hc,by omega,by rw [dqS (.inl hr),if_pos rfl]⟩
   refine ite2 (fun hne=>?_) (fun hne=>keep ?_)
   rotate_left
   ·cases cs with
    | nil=>rfl
    | cons a b=>exact absurd rfl hne
   obtain ⟨c,hc⟩ : ∃ c,cs.getLast? = some c := by
    cases hcl : cs.getLast? with
    | some c=>exact ⟨c,rfl⟩
    | none=>rw [List.getLast?_eq_none_iff] at hcl; subst hcl; cases hne
   have hc' := hc
   rw [List.getLast?_eq_getElem?] at hc'
   have hcl' := (List.getElem?_eq_some_iff.mp hc').1
   obtain ⟨v,hv⟩ : ∃ v,xs[cs.length - 1]? = some v := ⟨_,List.getElem?_eq_getElem (by omega)⟩
   obtain ⟨c2,pp,hc2,rfl,hpp⟩ := hT2.get hv
   rw [hc'] at hc2
   cases hc2
   have hvl : xs.getLast? = some (.ref pp) := by rw [List.getLast?_eq_getElem?,hxl]; exact hv
   have hat : atI xs (-1) = some (.ref pp) := by
    have := jqw (l := xs) (s := .ref pp) id hvl
    simpa using this
   refine ⟨_,_,.inl (.of hl2),hat,?_⟩
   walk_at "rd"
   refine ⟨_,_,.inr (.of hpp),c.at0,?_⟩
   refine L2.aqt.mpr ⟨_,rfl,?_⟩
   rw [dqQ]
   refine ite2 (fun hr=>?_) (fun hr=>?_)
   rotate_left
   ·exact ⟨s02,l,cs,xs,rfl,hl2,hT2,fun c hc=>hc,by omega,by rw [dqS (.inl (by unfold hasRest; rw [hc]; simpa using hr)),if_pos rfl]⟩
   obtain ⟨n7,hn7⟩ : ∃ n7,is[7]? = some n7 := ⟨_,List.getElem?_eq_getElem (by omega)⟩
   refine ⟨_,_,.inl (.of hl2),hat,by decide,fun p3 H3 n3 s3 hp3=>⟨_,_,.inl (.of ((s02.trans s3) _ _ hpc)),aqi (j := 7) (by rw [List.getElem?_map,hn7]; rfl),rd_I.mpr ⟨by decide,?_⟩⟩⟩
   obtain ⟨j,hj,ej⟩ : ∃ j : Nat,j < 3 /\ n7 % 3 = (j : Int) := ⟨(n7 % 3).toNat,by omega,by omega⟩
   rw [ej]
   have hfl : ∀ (v : V) (m : Nat),(List.replicate m [v]).flatten = List.replicate m v := fun v m=>by
    induction m with
    | zero=>rfl
    | succ m ih=>rw [List.replicate_succ,List.flatten_cons,ih]; rfl
   refine ⟨p3,_,_,rfl,rfl,hp3,by omega,by omega,aqq (by simp; omega),fun p4 H4 n4 s4 hp4=>?_⟩
   rw [Int.toNat_natCast,hfl] at hp4
   have s24 := s3.trans s4
   refine .inl ⟨_,_,s24 _ _ hl2,hp4,aqq (by rw [List.length_replicate]; omega),fun p5 H5 n5 s5 hp5=>?_⟩
   have s25 := s24.trans s5
   refine ⟨s02.trans s25,p5,cs ++ List.replicate j c,_,rfl,hp5,PcT.append (PcT.rep (s25 _ _ hpp) j) (hT2.mono s25.toT),fun z hz=>?_,?_,?_⟩
   ·rcases List.mem_append.mp hz with hz | hz
    ·exact hz
    ·rw [List.eq_of_mem_replicate hz]; exact List.mem_of_getLast? hc
   ·rw [List.length_append,List.length_replicate]; omega
   ·rw [List.length_append,List.length_replicate,hqT hc hr (by omega),show cs.length + j - cs.length = j by omega]
  ·rintro σ H2 ⟨s2,l2,ds,ys,rfl,hl2,hd,hsub,hdl,hsp⟩
   have hyl := hd.length
   walk_at "rd"
   refine ⟨l2,_,rfl,.of hl2,fun l3 n3=>?_⟩
   refine lqE (fun i ws H' => Same H2 H' /\ ∃ ss : List (List Nat),ws = ss.map tV /\ ss.length = i /\ (∀ s ∈ ss,0 < s.length /\ s.length <= 300 /\ ∀ x ∈ s,isSg x = true) /\ ∀ (j : Nat) (c : Pc) (s : List Nat),ds[j]? = some c -> ss[j]? = some s -> fitsM c s = true) ?_ ?_ ?_ ?_ ?_ ?_
   ·rintro i ws H3 H4 s4 ⟨s3,h⟩
    exact ⟨s3.trans s4,h⟩
   ·exact aqq (by omega)
   ·exact ⟨aqR n3,[],rfl,rfl,fun s hs=>(by cases hs),fun j c s _ hs=>by simp at hs⟩
   ·rintro i ws H3 ⟨s3,h⟩
    exact .of (s3 _ _ hl2)
   ·rintro i x ws H3 T hxi ⟨s3,ss,rfl,hsl,hss,hsf⟩ hl3 hT
    obtain ⟨c,pp,hc,rfl,hpp⟩ := hd.get hxi
    obtain ⟨m,hm,em⟩ : ∃ m : Nat,m < 8 /\ (i : Int) % 8 = (m : Int) := ⟨i % 8,by omega,by omega⟩
    obtain ⟨n,hn⟩ : ∃ n,is[m]? = some n := ⟨_,List.getElem?_eq_getElem (by omega)⟩
    walk_at "rd"
    refine ⟨by decide,_,_,.inl (.of ((s2.trans s3) _ _ hpc)),by rw [em]; exact aqi (by rw [List.getElem?_map,hn]; rfl),?_⟩
    walk_at "rd"
    refine ⟨.inl ⟨by decide,by decide⟩,c,pp,_,sg,rfl,s3 _ _ hpp,(oc.2 c (hsub c (List.mem_of_getElem? hc))).1,hg0,hgl,hgs,fun z H4 s4 z1 z2 z3 z4=>?_⟩
    refine hT (tV z) H4 (s4 _ _ hl3) ⟨fun b o hb=>?_,ss ++ [z],by rw [List.map_append]; rfl,by rw [List.length_append,hsl]; rfl,fun s hs=>?_,fun j c' s hc' hs=>?_⟩
    ·have hb' := (s3.trans s4) _ _ hb
     rw [aqo (fun w=>by subst w; rw [n3] at hb; cases hb)]; exact hb'
    ·rcases List.mem_append.mp hs with y | y
     ·exact hss s y
     ·rw [List.mem_singleton.mp y]; exact ⟨z2,z3,z4⟩
    ·by_cases hj : j < ss.length
     ·rw [List.getElem?_append_left hj] at hs
      exact hsf j c' s hc' hs
     ·have e1 : j = i := by
       have := (List.getElem?_eq_some_iff.mp hs).1
       rw [List.length_append] at this
       simp at this
       omega
      subst e1
      rw [List.getElem?_append_right (by omega),hsl,Nat.sub_self] at hs
      cases hs
      rw [hc] at hc'
      cases hc'
      exact z1
   ·rintro ws H3 ⟨s3,ss,rfl,hsl,hss,hsf⟩ hl3
    have s03 := s2.trans s3
    walk_at "rd"
    refine ⟨_,.inl (.of hl3),fun p4 H4 s4 hp4=>⟨_,_,.inr (.of ((s03.trans s4) _ _ hp)),aqi (j := 1) rfl,by decide,fun p5 H5 n5 s5 hp5=>?_⟩⟩
    refine k (.ref p5) H5 ((s03.trans s4).trans s5) ⟨p5,p4,true,e,ss,rfl,hp5,s5 _ _ hp4,⟨by omega,fun s hs=>⟨(hss s hs).1,by have := (hss s hs).2.1; omega,(hss s hs).2.2⟩⟩,?_⟩
    exact kqo.mpr ⟨ds,by rw [hsl,hyl]; exact hsp,rfl,rfl,hsf⟩
theorem lqS (g : G K mg) : FnOk P w K mg base CX0 4 g.eq5 g.dq3 ["_law_rules", "_law_way_here"] (lqu K) := by
 refine g.gqI.ok fqw (fun vs H Q E h=>?_) (fun cdv A outer s H vs Q E hr h=>?_)
 ·obtain ⟨rs,lr,rv,w,v,rfl,_⟩ := h; rfl
 ·obtain ⟨rs,lr,rv,w,v,rfl,hlr,hrs,hrl,hok,hw,hsz,hne,k0,k⟩ := h
  refine ⟨_,(aqh (cqW PassesOwn.never rfl (fqe (K := K) rfl (pv 0)) (aqF (i := 2) fqw.nd rfl (Or.inl rfl))
   (aqh (aqx (i := 3) fqw.nd rfl (Or.inl rfl) (aqk (kqA g) (hr.mono (by decide)) rfl g.iqm g.fqv.kp g.hqJ .nil pass0 (aqa (pv 2) (aqa (pv 1) aqb))))
   (aqf (aqB (aql hqh (pv 3) cqz (nomark _))
    (aqf (aqn (pv 3))) aqu))))
   (aqf (aqn cqz))),?_⟩
  walk_at "rd"
  refine ⟨⟨_,.of hlr⟩,?_⟩
  refine hqS (xs := rv) (fun i σ H' => Same H H' /\ (∀ q ∈ rs.take i,ledR q w = none) /\ ∃ v2 v3,σ = [some (.ref lr),some v,v2,v3]) ⟨Same.refl _,(fun q hq=>by rw [List.take_zero] at hq; cases hq),none,none,rfl⟩ (fun i σ H' _ h=>.of (h.1 _ _ hlr)) ?_ ?_
  ·rintro i x σ H1 hxi ⟨s1,hpre,v2,v3,rfl⟩
   obtain ⟨r,hr,hx⟩ := hrs.2 i x hxi
   obtain ⟨o1,o2,o3,o4,o5,o6⟩ := hok r (List.mem_of_getElem? hr)
   walk_at "rd"
   refine ⟨r,x,w,v,rfl,hx.mono s1.toT,o1,o2,o3,o4,o5,o6,hw.mono s1.toT,hsz,hne,fun hn H2 s2=>?_,fun w' v' H2 hl s2 hv' => ?_⟩
   ·refine ite2 (fun z=>absurd rfl z) (fun _=>⟨s1.trans s2,fun q hq=>?_,_,_,rfl,rfl⟩)
    rw [List.take_add_one,hr] at hq
    rcases List.mem_append.mp hq with y | y
    ·exact hpre q y
    ·have : q = r := by simpa using y
     rw [this]; exact hn
   ·have hvn : v' ≠ .non := by obtain ⟨_,_,rfl,_⟩ := hv'; exact fun z=>by cases z
    exact ite2 (fun _=>k w' v' H2 (lqd hr hpre hl) (s1.trans s2) hv') (fun z=>absurd hvn z)
  ·rintro σ H1 ⟨s1,hpre,v2,v3,rfl⟩
   rw [hrs.1,List.take_length] at hpre
   walk_at "rd"
   exact k0 (kqW hpre) H1 s1
theorem oqS (g : G K mg) : FnOk P w K mg base CX0 5 g.jqS g.hqu ["pattern", "way"] (pqj K) := by
 refine g.lqx.ok hqq (fun vs H Q E h=>?_) (fun cdv A outer s H vs Q E hr h=>?_)
 ·obtain ⟨cs,xs,p,q,pw,ps,cl,r,e,ss,rfl,_⟩ := h; rfl
 ·obtain ⟨cs,xs,p,q,pw,ps,cl,r,e,ss,rfl,hp,hq,hx,hn,hz,hw,hps,hsn,hsl,k0,k⟩ := h
  refine ⟨_,(aqh (aqB (bqG (bqc (aqk (rqh g) (hr.mono (by decide)) rfl g.qqa g.oqr.kp g.qqe .nil pass0 (aqa (pv 0) (aqa (pv 1) aqb)))))
    (aqf (aqn cqz)) aqu)
   (aqh (aqx (i := 2) hqq.nd rfl (Or.inl rfl) (aqL aqb))
   (aqh (cqW PassesOwn.never rfl (oqH (K := K) rfl rfl g.cqX (aqa (aqp (aqe (K := K) rfl) (pv 0) (aqW (v := eq4) rfl g.dqU ⟨_,rfl⟩) (fun _ _=>rfl)) aqb)) (gqL (n := 2) (K := K) rfl rfl (aq0 (aqF (i := 3) hqq.nd rfl (Or.inl rfl)) (aq0 (aqF (i := 4) hqq.nd rfl (Or.inl rfl)) fqB)))
   (aqf (aqB (bqc (aqk (hqA g) (hr.mono (by decide)) rfl g.hqs g.fq1.kp g.hqi .nil pass0 (aqa (pv 4) aqb)))
    (aqf (cqh (cqx (K := K) rfl PySem.F.plainAttrs_list PySem.F.slot_list_append PySem.F.type_list_append aq2 (pv 2) (aqa (aq8 (aqa (aqk (eq9 g) (hr.mono (by decide)) rfl g.eqH g.dqL.kp g.eqz .nil pass0 (aqa (pv 4) aqb)) (aqa (aqk (iqE g) (hr.mono (by decide)) rfl g.fq6 g.dq6.kp g.fq2 .nil pass0 (aqa (pv 4) (aqa (dqq lqT (aqp (aqe (K := K) rfl) (pv 1) (aqW (v := nq6) rfl g.lqv ⟨_,rfl⟩) (fun _ _=>rfl)) (cqs (pv 3)) fqq) aqb))) aqb))) aqb)))) aqu)))
   (aqf (aqn (pv 2)))))),?_⟩
  walk_at "rd"
  refine ⟨cs,xs,p,q,pw,ps,cl,r,e,ss,rfl,hp,hq,hx,hn,hz,hw,.of hps,hsn,hsl,fun H1 s1=>⟨_,rfl,?_⟩⟩
  cases hf : fitsP cs cl r ss e with
  | false=>exact ite2 (fun _=>k0 hf H1 s1) (fun z=>absurd rfl z)
  | true =>
   refine ite2 (fun z=>by cases z) (fun _=>⟨by decide,fun l H2 n2 s2 e2=>?_⟩)
   have s02 := s1.trans s2
   have hl := hx.length
   refine ⟨_,_,.inr (s02.tup hp),aqi (j := 0) rfl,q,xs,rfl,.of (s02 _ _ hq),?_⟩
   have nl : H l = none := by
    cases hh : H l with
    | none=>rfl
    | some o=>rw [s1 _ _ hh] at n2; cases n2
   refine kq9 (fun i σ H' => ∃ (ys : List V) (v3 v4 : Option V),σ = [some (.ref p),some (.ref pw),some (.ref l),v3,v4] /\ H' l = some (.lst ys) /\ BndV H' l (boundM (cs.take i) ss) ys /\ Same H H') ⟨[],none,none,rfl,e2,.nil,s02⟩ (fun i σ H' _ h=>by obtain ⟨_,_,_,_,_,_,hh⟩ := h; exact .of (hh _ _ hq)) ?_ ?_
   ·rintro i v σ H3 T hv ⟨ys,v3,v4,rfl,e3,hb,s3⟩ hT
    obtain ⟨c,pc,hc,rfl,hpc⟩ := hx.get hv
    have st : Same H3 (upd H3 T (.tup [.int (i : Int),.ref pc])) := aqR hT
    have hpc' := (s3.trans st).tup hpc
    have et := hqE cs ss i c hc
    obtain ⟨s,hs,hfs⟩ := pqI hf hc
    walk_at "rd"
    refine ⟨T,_,rfl,.of aqj,rfl,_,_,rfl,_,_,rfl,rfl,?_⟩
    walk_at "rd"
    refine ⟨c,pc,rfl,hpc',_,rfl,?_⟩
    have hbl := hb.length
    have hbn := jqj (cs.take i) ss
    rw [List.length_take] at hbn
    cases hcs : c.isStep with
    | true =>
     refine ite2 (fun z=>by cases z) (fun _=>?_)
     rw [hcs,if_pos rfl,List.append_nil] at et
     exact ⟨ys,_,_,⟨rfl,rfl⟩,st _ _ e3,by rw [et]; exact hb.mono st,s3.trans st⟩
    | false =>
     refine ite2 (fun _=>?_) (fun z=>absurd rfl z)
     rw [hcs,if_neg (by decide)] at et
     have sT := s3.trans st
     have hsi : ss.drop i = s :: ss.drop (i + 1) := by
      have hi := (List.getElem?_eq_some_iff.mp hs)
      rw [List.drop_eq_getElem_cons hi.1,hi.2]
     obtain ⟨z1,z2⟩ := hz c (List.mem_of_getElem? hc)
     refine ⟨⟨_,.of (st _ _ e3)⟩,c,pc,rfl,hpc',hcs,_,_,.inr (sT.tup hw),aqi (j := 1) rfl,ps,_,rfl,sT _ _ hps,fun p4 H4 s4 e4=>?_⟩
     rw [mqv,<- List.map_drop,hsi] at e4
     refine ⟨c,s,ss.drop (i + 1),pc,p4,rfl,s4.tup hpc',e4,hfs,hsl s (List.mem_of_getElem? hs),z1,z2,by rw [List.length_drop]; omega,fun v H5 s5 hv5 hn5=>⟨by decide,fun p6 H6 n6 s6 e6=>?_⟩⟩
     have e36 := (st.trans (s4.trans (s5.trans s6))) _ _ e3
     have hvn : ∀ q,v = .ref q -> q ≠ l := fun q z w=>by
      have := hn5 q z
      rw [w,s4 _ _ (st _ _ e3)] at this
      cases this
     refine ⟨_,e36,Nat.lt_of_le_of_lt (show ys.length <= 100 by omega) (by decide),ys ++ [.ref p6],_,_,⟨rfl,rfl⟩,by rw [aqj],?_,kqD nl (sT.trans (s4.trans (s5.trans s6)))⟩
     rw [et,hsi]
     exact ((hb.mono (st.trans (s4.trans (s5.trans s6)))).snoc e6 (hv5.mono s6) hvn).upd e36
   ·rintro σ H3 ⟨ys,v3,v4,rfl,e3,hb,s3⟩
    rw [hl,List.take_length] at hb
    walk_at "rd"
    exact k hf l ys H3 s3 e3 hb
theorem lqK (g : G K mg) : FnOk P w K mg base CX0 5 g.fqa g.dqZ ["gap", "value"] (lqi K) := by
 refine g.gqB.ok lqn (fun vs H Q E h=>?_) (fun cdv A outer s H vs Q E hr h=>?_)
 ·obtain ⟨c,p,d,v,rfl,_⟩ := h; rfl
 ·obtain ⟨c,p,d,v,rfl,hp,hc,hh,ht,hv,hs,k⟩ := h
  refine ⟨_,(aqh (aqB (aql aqK (aqp (aqe (K := K) rfl) (pv 0) aqc (fun _ _=>rfl)) aqv (nomark _))
    (aqf (aqn (cq5 (aqs bqw rfl g.aqH aqA (aqa (pv 1) (aqa (dqs (v := .ty "list") rfl g.gqX fqA rfl) aqb))) (cq5 (aqC lqC (aqs (aqw (K := K) rfl) rfl g.bqq PySem.boot_len (aqa (pv 1) aqb)) aqc (nomark _)) (bqZ (aqs (iqi (K := K) rfl rfl) rfl g.pqw PyProof.Rows.boot_all (aqa (dqu (fx := []) (fr := []) rfl rfl (by decide +kernel) rfl (by decide +kernel) rfl (by decide +kernel) rfl .nil rfl (fqe (K := K) rfl (pv 1)) (fun _ _ _=>jqf) (fun _ _ _=>(aqk (iqI g) (hr.mono (by decide)) rfl g.fqV g.eqg.kp g.gql .nil pass0 (aqa (pv 0) aqb)))) aqb))))))) aqu)
   (aqh (aqB (aql aqK (aqp (aqe (K := K) rfl) (pv 0) aqc (fun _ _=>rfl)) aqv (nomark _))
    (aqf (aqn (cq5 (aqk (gqs g) (hr.mono (by decide)) rfl g.dqI g.bq5.kp g.dqM .nil pass0 (aqa (pv 1) aqb)) (bqZ (mqu lqR pqr aqc (pv 1) (aqr qqd aqc aqc)))))) aqu)
   (aqh (aqB (aql aqK (aqp (aqe (K := K) rfl) (pv 0) aqc (fun _ _=>rfl)) aqv (nomark _))
    (aqf (aqn (cq5 (aqs bqw rfl g.aqH aqA (aqa (pv 1) (aqa (dqs (v := .ty "str") rfl g.nqb kqT rfl) aqb))) (bqZ (aqk (jqb g) (hr.mono (by decide)) rfl g.hqP g.gqp.kp g.hqI .nil pass0 (aqa (pv 1) aqb)))))) aqu)
   (aqf (aqn (cq5 (aqk (dqJ g) (hr.mono (by decide)) rfl g.cqu g.bqy.kp g.cqv .nil pass0 (aqa (pv 1) aqb)) (bqZ (lq7 (aqk (hqQ g) (hr.mono (by decide)) rfl g.hqt g.gqe.kp g.hqm .nil pass0 (aqa (aqr (aqz (K := K)) (aqr (aqz (K := K)) (aqk (fqb g) (hr.mono (by decide)) rfl g.eqo g.dqB.kp g.eqD .nil pass0 (aqa (pv 0) aqb)) (pv 1)) (aqk (eqZ g) (hr.mono (by decide)) rfl g.eqG g.dqD.kp g.eqK .nil pass0 (aqa (pv 0) aqb))) aqb)))))))))),?_⟩
  walk_at "rd"
  refine ⟨_,_,.inr hp,c.at0,aqt.mpr ⟨_,rfl,?_⟩⟩
  rw [dqQ]
  refine ite2 (fun hrs=>?_) (fun hrs=>⟨_,_,.inr hp,c.at0,aqt.mpr ⟨_,rfl,?_⟩⟩)
  ·cases c with
   | rest n =>
    have k1 := k
    cases hv with
    | lst hl r =>
     rename_i a xs ds
     refine ⟨"list", hqk hl,?_⟩
     rw [if_pos (by decide)]
     have hlen := r.length
     have hsm : ds.length <= 100000 /\ smallAll ds = true := by simpa [smallD] using hs
     refine oqE.mpr ⟨xs,.inl (.of hl),pqQ.mpr ⟨_,rfl,?_⟩⟩
     have e : isValD (.rest n) (.list ds) = (decide (0 < ds.length) && ds.all canD) := rfl
     rw [e] at k
     refine ite2 (fun h0=>?_) (fun h0=>?_)
     ·have h0 : 0 < ds.length := by have := of_decide_eq_true h0; omega
      rw [decide_eq_true h0,Bool.true_and] at k
      refine ⟨_,rfl,⟨_,.of hl⟩,fun p0 n0=>?_⟩
      refine mqJ (zs := (ds.map canD).map V.bl) (.of hl) (aqq (by omega)) n0 (by rw [List.length_map,List.length_map,hlen]) (fun i x z hx hz H1 T s1 hT=>?_) (fun H1 s1 hp1=>?_)
      ·obtain ⟨d,hd,hI⟩ := r.at i x hx
       rw [List.getElem?_map,List.getElem?_map,hd] at hz
       cases hz
       walk_at "rd"
       exact ⟨d,x,rfl,hI.mono s1,gq7 hsm.2 (List.mem_of_getElem? hd),fun H2 s2=>hT H2 s2⟩
      ·refine lqw.mpr ⟨ds.map canD,.of hp1,?_⟩
       have := k H1 s1
       rw [List.all_map]
       exact this
     ·have h0 : ¬ 0 < ds.length := fun z=>h0 (decide_eq_true (by omega))
      rw [decide_eq_false h0,Bool.false_and] at k
      exact k H (Same.refl _)
    | tup hl r =>
     refine ⟨"tuple", hqv hl,?_⟩
     rw [if_neg (by decide)]
     exact k H (Same.refl _)
    | non=>exact ⟨"NoneType", rfl,ite2 (fun z=>absurd z (by decide)) (fun _=>k H (Same.refl _))⟩
    | bl b=>exact ⟨"bool", rfl,ite2 (fun z=>absurd z (by decide)) (fun _=>k H (Same.refl _))⟩
    | int i=>exact ⟨"int", rfl,ite2 (fun z=>absurd z (by decide)) (fun _=>k H (Same.refl _))⟩
    | str x=>exact ⟨"str", rfl,ite2 (fun z=>absurd z (by decide)) (fun _=>k H (Same.refl _))⟩
   | _=>cases hrs
  rw [dqy]
  refine ite2 (fun hnm=>?_) (fun hnm=>⟨_,_,.inr hp,c.at0,aqt.mpr ⟨_,rfl,?_⟩⟩)
  ·cases c with
   | num n =>
    refine ⟨d,v,rfl,hv,_,rfl,?_⟩
    cases hv with
    | int i =>
     refine ite2 (fun _=>pqQ.mpr ⟨_,rfl,?_⟩) (fun z=>absurd rfl z)
     have e : isValD (.num n) (.int i) = decide (0 <= i /\ i < 10 ^ 60) := rfl
     rw [e] at k
     have k1 := k H (Same.refl _)
     refine ite2 (fun h0=>⟨⟨by decide,by decide,by decide⟩,pqQ.mpr ?_⟩) (fun h0=>?_)
     ·have h0 := of_decide_eq_true h0
      rw [show decide (0 <= i /\ i < 10 ^ 60) = decide (i < 10 ^ Int.toNat 60) by rw [decide_eq_decide]; exact ⟨fun z=>z.2,fun z=>⟨h0,z⟩⟩] at k1
      exact k1
     ·rw [decide_eq_false (fun z=>h0 (decide_eq_true z.1))] at k1
      exact k1
    | _=>exact ite2 (fun z=>by cases z) (fun _=>k H (Same.refl _))
   | _=>cases hnm
  rw [fqE]
  refine ite2 (fun hw=>?_) (fun hw=>?_)
  ·cases c with
   | word n =>
    cases hv with
    | str x =>
     refine ⟨"str", rfl,ite2 (fun _=>?_) (fun z=>absurd (by decide) z)⟩
     have hl := eqy hs
     exact ⟨x.cps.toList,rfl,hl,fun H1 s1=>k H1 s1⟩
    | lst hl r=>exact ⟨"list", hqk hl,ite2 (fun z=>absurd z (by decide)) (fun _=>k H (Same.refl _))⟩
    | tup hl r=>exact ⟨"tuple", hqv hl,ite2 (fun z=>absurd z (by decide)) (fun _=>k H (Same.refl _))⟩
    | non=>exact ⟨"NoneType", rfl,ite2 (fun z=>absurd z (by decide)) (fun _=>k H (Same.refl _))⟩
    | bl b=>exact ⟨"bool", rfl,ite2 (fun z=>absurd z (by decide)) (fun _=>k H (Same.refl _))⟩
    | int i=>exact ⟨"int", rfl,ite2 (fun z=>absurd z (by decide)) (fun _=>k H (Same.refl _))⟩
   | _=>cases hw
  ·have e : isValD c d = (ftx d && !isDot (c.head ++ txD d ++ c.tail)) := by
    cases c with
    | part a b e=>rfl
    | gap n=>show (ftx d && !isDot (txD d)) = (ftx d && !isDot ([] ++ txD d ++ [])); rw [List.nil_append,List.append_nil]
    | step s=>cases hc
    | num n=>exact absurd rfl hnm
    | word n=>exact absurd rfl hw
    | rest n=>exact absurd rfl hrs
   rw [e] at k
   refine ⟨d,v,rfl,hv,hs,fun H1 s1=>⟨_,rfl,?_⟩⟩
   refine ite2 (fun hf=>?_) (fun hf=>?_)
   ·cases hv with
    | str x =>
     obtain ⟨⟨l⟩⟩ := x
     have hl : l.length <= 100000 := eqy hs
     rw [hf,Bool.true_and] at k
     have b3 : 300000 <= sizeLine := by decide
     refine ⟨c,p,rfl,s1.tup hp,dqP.mpr ⟨Nat.le_trans (show c.head.length + l.length <= 300000 by omega) b3,c,p,rfl,s1.tup hp,dqP.mpr ⟨?_,?_⟩⟩⟩
     ·show ((⟨c.head.toArray⟩ : Str) ++ ⟨l.toArray⟩).length + c.tail.length <= _
      rw [cq3,cqy,List.length_append]
      omega
     ·show jqY [V.str ((⟨c.head.toArray⟩ : Str) ++ ⟨l.toArray⟩ ++ ⟨c.tail.toArray⟩)] H1 _ E0
      rw [cq3,cq3]
      exact ⟨_,rfl,_,rfl,k H1 s1⟩
    | _=>cases hf
   ·rw [Bool.eq_false_iff.mpr hf,Bool.false_and] at k
    exact k H1 s1
theorem kqM (g : G K mg) : FnOk P w K mg base CX0 5 g.eqe g.dqd ["_law_cells_here", "_law_names_here", "_law_signs_here"] (kqc K) := by
 refine g.fqz.ok gq5 (fun vs H Q E h=>?_) (fun cdv A outer s H vs Q E hr h=>?_)
 ·obtain ⟨pc,pn,g,ns,is,rfl,_⟩ := h; rfl
 ·obtain ⟨pc,pn,sg,nm,is,rfl,hpc,his,hpn,hns,hnd,hnsg,hg0,hgl,hgs,k⟩ := h
  refine ⟨_,(aqh (aqx (i := 3) gq5.nd rfl (Or.inl rfl) (aqk (hq9 g) (hr.mono (by decide)) rfl g.fqh g.dqw.kp g.fqk .nil pass0 (aqa (dqq (jqz (K := K) rfl) (pv 0) fqq (cqs aqc)) (aqa (pv 1) (aqa (pv 2) aqb)))))
   (aqf (aqn (aq8 (aqa (pv 3) (aqa (aqk (kqE g) (hr.mono (by decide)) rfl g.iqc g.fqm.kp g.hqZ .nil pass0 (aqa (pv 3) (aqa (dqq (jqz (K := K) rfl) (pv 0) (cqs aqc) (cqs aqc)) (aqa (pv 2) aqb)))) aqb)))))),?_⟩
  walk_at "rd"
  refine ⟨_,.of hpc,fun p1 H1 n1 s1 hp1=>?_⟩
  have e6 : cutV (is.map V.int) none (some 6) = (is.take 6).map V.int := by rw [show (6 : Int) = ((6 : Nat) : Int) from rfl,mqh,List.map_take]
  rw [e6] at hp1
  refine ⟨p1,pn,sg,nm,is.take 6,rfl,hp1,by rw [List.length_take]; omega,s1 _ _ hpn,hns,hnd,hnsg,hg0,hgl,hgs,fun cs e p q xs H2 hok hcl hgn hgi hce s2 hq hP hp=>?_⟩
  have s02 := s1.trans s2
  refine ⟨_,.of (s02 _ _ hpc),fun p3 H3 n3 s3 hp3=>?_⟩
  have e10 : cutV (is.map V.int) (some 6) (some 10) = ((is.drop 6).take 4).map V.int := by
   rw [pqN]
   refine congrArg (List.map V.int) ?_
   have hl : is.length = 10 := his
   obtain ⟨x0,x1,x2,x3,x4,x5,x6,x7,x8,x9,rfl⟩ : ∃ x0 x1 x2 x3 x4 x5 x6 x7 x8 x9,is = [x0,x1,x2,x3,x4,x5,x6,x7,x8,x9] := by
    match is,hl with
    | [a,b,c,d,e,f,g,h,i,j],_=>exact ⟨_,_,_,_,_,_,_,_,_,_,rfl⟩
   rfl
  rw [e10] at hp3
  have hsg : ∀ c ∈ cs,PcSg c := fun c hc=>jqv (hok.1 c hc) fun x hx=>?_
  rotate_left
  ·cases hst : c.isStep with
   | true =>
    cases c with
    | step s=>exact absurd (show x ∈ ([] : List Nat) from hx) List.not_mem_nil
    | _=>cases hst
   | false=>exact hnsg c.name (hgi c.name (by
     unfold gapsM
     exact List.mem_map.mpr ⟨c,List.mem_filter.mpr ⟨hc,by rw [hst]; rfl⟩,rfl⟩)) x hx
  refine ⟨cs,e,p,p3,sg,(is.drop 6).take 4,rfl,hcl,hok,hsg,⟨q,xs,s3 _ _ hp,s3 _ _ hq,hP.mono s3.toT⟩,hp3,by rw [List.length_take,List.length_drop]; omega,hg0,hgl,hgs,fun ds e' p' H4 hdl hdo hdr hdk s4 hpt=>⟨by decide,fun p5 H5 n5 s5 hp5=>?_⟩⟩
  have s25 := s3.trans (s4.trans s5)
  exact k ((cs,e),(ds,e')) (.ref p5) H5 ⟨by show cs.length <= 90; omega,by show ds.length <= 90; omega,hok.1,fun c hc=>(hdo c hc).1⟩ ⟨by show cs.length <= 90; omega,fun c hc=>⟨hok.1 c hc,hsg c hc⟩⟩ hdl hdr hok hgn hdk (s02.trans s25) ⟨p5,p,p',rfl,hp5,⟨q,xs,s25 _ _ hp,s25 _ _ hq,hP.mono s25.toT⟩,hpt.mono s5.toT⟩
theorem hqc (g : G K mg) : FnOk P w K mg base (CXN P w base) 6 g.cqi g.bqT ["piece", "values"] (hqg K g.aqE) := by
 refine g.dqv.okn eqF (fun vs H Q E h=>?_) (fun cdv A outer s H vs Q E hr h=>?_)
 ·obtain ⟨c,p,pz,ws,ys,rfl,_⟩ := h; rfl
 ·obtain ⟨c,p,pz,ws,ys,rfl,hp,hh,ht,hpv,hw,hwl,hws,kQ,kE⟩ := h
  refine ⟨_,(aqh (aqB (bqG (bqc (aqk (hqA g) (hr.mono (by decide)) rfl g.hqs g.fq1.kp g.hqi .nil pass0 (aqa (pv 0) aqb))))
    (aqf (aqn (aqL (aqa (aqp (aqe (K := K) rfl) (pv 0) aqc (fun _ _=>rfl)) aqb)))) aqu)
   (aqh (mqd (i := 2) (K := K) (fx := ["piece"]) (fr := [0]) eqF.nd rfl rfl rfl rfl rfl (by decide +kernel) rfl (by decide +kernel) rfl rfl (by decide +kernel) rfl (.cons rfl rfl rfl rfl .nil) rfl (fqe (K := K) rfl (pv 1)) (fun _ _ _=>(fq9 (aql aqK (pv 0) (aqk (eq9 g) (hr.mono (by decide)) rfl g.eqH g.dqL.kp g.eqz .nil pass0 (aqa (pv 2) aqb)) (nomark _)))) (fun _ _ _=>(pv 1)))
   (aqh (aqB (PW.pt (eqn (aql hqX (aqs (aqw (K := K) rfl) rfl g.bqq PySem.boot_len (aqa (pv 2) aqb)) aqc (nomark _)) (cq4 (bqG (bqc (aqk (lqK g) (hr.mono (by decide)) rfl g.jqh g.gqB.kp g.jqo .nil pass0 (aqa (pv 0) (aqa (aqp (aqe (K := K) rfl) (pv 2) aqc (fun _ _=>rfl)) aqb))))))))
    (aqf (jqX jql rfl g.gqg g.hqF (cq0 g) (hr.mono (by decide)) g.bqU rfl pass0 rfl (aqa (aqk (eq9 g) (hr.mono (by decide)) rfl g.eqH g.dqL.kp g.eqz .nil pass0 (aqa (pv 0) aqb)) aqb))) aqu)
   (aqf (aqn (aqk (gqD g) (hr.mono (by decide)) rfl g.eqj g.cqw.kp g.eql .nil pass0 (aqa (pv 0) (aqa (aqp (aqe (K := K) rfl) (pv 2) aqc (fun _ _=>rfl)) aqb)))))))),?_⟩
  walk_at "rd"
  refine ⟨c,p,rfl,hp,_,rfl,?_⟩
  cases hst : c.isStep with
  | true =>
   refine ite2 (fun _=>?_) (fun z=>absurd rfl z)
   cases c with
   | step s=>exact ⟨_,_,.inr hp,aqi (j := 1) rfl,by decide,fun p1 H1 n1 s1 hp1=>kQ [s] rfl p1 H1 s1 hp1⟩
   | _=>cases hst
  | false =>
   refine ite2 (fun z=>absurd z (by decide)) (fun _=>?_)
   have hyl := hw.length
   rw [fqW hst] at kQ kE
   refine ⟨⟨_,.of hpv⟩,fun p0 n0=>?_⟩
   refine lqp (fun i=>prAt H ys i) (fun i=>decide ((ws[i]?.map (·.1)) = some c.name)) (fun i=>(prAt H ys i).2) (.of hpv) (aqq (by omega)) n0 (fun i x H1 hx s1=>?_) (fun i hi H1 R s1 hR=>?_) (fun i hi ht H1 T s1 hT=>?_) (fun H1 s1 hp1=>?_)
   ·obtain ⟨n,d,b,v,h1,rfl,h3,h4⟩ := hw.get hx
    rw [lqs hx h3]
    exact ⟨b,rfl,.of (s1 _ _ h3)⟩
   ·have hx : ys[i]? = some ys[i] := List.getElem?_eq_getElem hi
    obtain ⟨n,d,b,v,h1,h2,h3,h4⟩ := hw.get hx
    rw [h2] at hx
    rw [lqs hx h3]
    have := hR H1 (Same.refl _)
    rw [h1] at this
    walk_at "rd"
    refine ⟨c,p,rfl,s1.tup hp,hst,aqt.mpr ⟨_,rfl,?_⟩⟩
    have e : decide ((⟨n.toArray⟩ : Str) = ⟨c.name.toArray⟩) = decide ((some (n,d)).map (·.1) = some c.name) := by
     rw [decide_eq_decide,bq0]
     exact ⟨fun z=>by rw [z]; rfl,fun z=>Option.some.inj z⟩
    rw [e]
    exact this
   ·walk_at "rd"
    exact hT H1 (Same.refl _)
   have hall := lqr hw c.name (fun i=>(prAt H ys i).2) (fun i m d q v h1 h2 h3=>by rw [lqs h2 h3])
   have hex : H1 p0 = some (.lst (((List.range ys.length).filter fun i=>decide ((ws[i]?.map (·.1)) = some c.name)).map fun i=>(prAt H ys i).2)) := hp1
   generalize (((List.range ys.length).filter fun i=>decide ((ws[i]?.map (·.1)) = some c.name)).map fun i=>(prAt H ys i).2) = ls at hall hex
   clear hp1
   have hsn : ∀ d ∈ named ws c.name,smallD d = true := fun d hd=>by
    obtain ⟨q,hq,rfl⟩ := List.mem_map.mp hd
    exact hws q (List.mem_filter.mp hq).1
   have hll := hall.length
   have raise : (match named ws c.name with | [d] => if isValD c d = true then (.ok (stpsD c d) : Except (List Nat) (List (List Nat))) else .error c.name | _=>.error c.name) = .error c.name -> ∀ H2,Same H H2 -> jqd K [V.ref p] H2 (fun x H1=>∀ (a : Addr),H1 a = none -> bqD K g.aqE [V.ref a,x] (upd H1 a (exNew a g.aqE)) (fun v H2=>v = V.non /\ ∃ d,H2 a = some (exSet a g.aqE d) /\ E (Value.ref g.aqE) (some d) (forget H2 a)) E0) E0 := fun he H2 s2 =>
    ⟨c,p,rfl,s2.tup hp,hst,iq1 fun d H3 s3 hd=>kE c.name he d H3 (s2.trans s3) hd⟩
   refine oqE.mpr ⟨ls,.inl (.of hex),nqz.mpr ⟨_,rfl,?_⟩⟩
   cases hn : named ws c.name with
   | nil =>
    rw [hn] at raise hll
    refine ite2 (fun _=>raise rfl H1 s1) (fun z=>?_)
    exact absurd (by rw [<- hll]; decide) z
   | cons d r =>
    cases r with
    | cons d2 r2 =>
     rw [hn] at raise hll
     refine ite2 (fun _=>raise rfl H1 s1) (fun z=>?_)
     refine absurd ?_ z
     rw [<- hll]
     simp only [List.length_cons]
     simp
     omega
    | nil =>
     rw [hn] at raise hll kQ kE hall hsn
     refine ite2 (fun z=>?_) (fun _=>?_)
     ·exact absurd z (by rw [<- hll]; simp)
     have hd : smallD d = true := hsn d (List.mem_singleton.mpr rfl)
     obtain ⟨u,rfl,hu⟩ : ∃ u,ls = [u] /\ Is H d u := by
      cases hall with
      | cons h r=>cases r; exact ⟨_,rfl,h⟩
     refine eqN.mpr ⟨_,u,.inl (.of hex),rfl,c,p,d,u,rfl,s1.tup hp,hst,hh,ht,hu.mono s1,hd,fun H2 s2=>⟨_,rfl,?_⟩⟩
     have s12 := s1.trans s2
     refine ite2 (fun hv=>raise ?_ H2 s12) (fun hv=>?_)
     ·exact if_neg (by rw [hv]; decide)
     ·have hv : isValD c d = true := by simpa using hv
      refine eqN.mpr ⟨_,u,.inl (.of (s2 _ _ hex)),rfl,c,p,d,u,rfl,s12.tup hp,hst,hh,ht,hu.mono s12,hd,hv,fun q H3 s3 hq=>kQ (stpsD c d) (if_pos hv) q H3 (s12.trans s3) hq⟩
theorem nqf (g : G K mg) : FnOk P w K mg base (CXN P w base) 7 g.hqo g.fqK ["pattern", "values"] (mq8 K g.aqE) := by
 refine g.jqL.okn hqB (fun vs H Q E h=>?_) (fun cdv A outer s H vs Q E hr h=>?_)
 ·obtain ⟨cs,xs,p,q,pz,cl,ws,ys,rfl,_⟩ := h; rfl
 ·obtain ⟨cs,xs,p,q,pz,cl,ws,ys,rfl,hp,hq,hx,hn,hsz,hpv,hw,hwl,hws,kQ,kE⟩ := h
  refine ⟨_,(aqh (aqx (i := 2) hqB.nd rfl (Or.inl rfl) (aqL aqb))
   (aqh (cqW PassesOwn.leaving rfl (gqR (K := K) rfl (aqp (aqe (K := K) rfl) (pv 0) (aqW (v := eq4) rfl g.dqU ⟨_,rfl⟩) (fun _ _=>rfl))) (aqF (i := 3) hqB.nd rfl (Or.inl rfl))
   (aqf (cqh (cqx (K := K) rfl PySem.F.plainAttrs_list PySem.F.slot_list_extend PySem.F.type_list_extend oqa (pv 2) (aqa (aqk (hqc g) (hr.mono (by decide)) rfl g.fql g.dqv.kp g.fqg .nil jqn (aqa (pv 3) (aqa (pv 1) aqb))) aqb)))))
   (aqh (cqh (aqk (gqA g) (hr.mono (by decide)) rfl g.eqs g.cqZ.kp g.eqp .nil jqn (aqa (pv 0) (aqa (pv 1) aqb))))
   (aqf (aqn (aq8 (aqa cqV (aqa (aqG (cq7 (K := K) rfl) rfl g.eqB dq0 (aqa (pv 2) aqb)) (aqa (aqp (aqe (K := K) rfl) (pv 0) (aqW (v := mqg) rfl g.jqN ⟨_,rfl⟩) (fun _ _=>rfl)) aqb))))))))),?_⟩
  walk_at "rd"
  have hxl := hx.length
  refine ⟨by decide,fun p1 H1 n1 s1 hp1=>⟨_,_,.inr (s1.tup hp),rfl,q,rfl,⟨_,s1.tup hq⟩,?_⟩⟩
  refine mqj (xs := xs) (fun i σ H' => SameBut p1 H H' /\ ∃ (v3 : Option V) (ss : List (List Nat)),σ = [some (.ref p),some (.ref pz),some (.ref p1),v3] /\ fillF (cs.take i) ws = .ok ss /\ H' p1 = some (.lst (ss.map tV)) /\ ss.length <= i * 100000) ⟨Same.but s1,none,[],rfl,by rw [List.take_zero]; rfl,hp1,Nat.zero_le _⟩ (fun i σ H' _ h=>(h.1.same n1).tup hq) ?_ ?_
  ·rintro i x σ H2 hxi ⟨sb,v3,ss,rfl,hf,hl2,hsl⟩
   obtain ⟨c,pc,hc,rfl,hv⟩ := hx.get hxi
   have s2 := sb.same n1
   have hi : i < cs.length := (List.getElem?_eq_some_iff.mp hc).1
   obtain ⟨hz1,hz2⟩ := hsz c (List.mem_of_getElem? hc)
   walk_at "rd"
   refine ⟨⟨_,.of hl2⟩,c,pc,pz,ws,ys,rfl,s2.tup hv,hz1,hz2,s2 _ _ hpv,hw.mono s2,hwl,hws,fun s' hs' q2 H3 s3 hq2=>?_,fun n hn' d H3 s3 hd=>?_⟩
   ·have hb := oqx hs' hws
    have hmul : i * 100000 <= 99 * 100000 := Nat.mul_le_mul_right _ (by omega)
    refine qqg.mpr ⟨_,_,s3 _ _ hl2,hq2,?_,?_⟩
    ·rw [List.length_map,List.length_map]
     exact Nat.le_trans (show ss.length + s'.length <= 10000000 by omega) (by decide)
    ·refine ⟨(sb.trans s3.but).trans cq6,_,ss ++ s',rfl,iq7 hc hf hs',by rw [aqj,List.map_append],?_⟩
     rw [List.length_append,Nat.add_mul]
     omega
   ·refine kE n ?_ d H3 (s2.trans s3) hd
    unfold fillM
    rw [kqK hc hf hn']
  ·rintro σ H2 ⟨sb,v3,ss,rfl,hf,hl2,hsl⟩
   have s2 := sb.same n1
   rw [hxl,List.take_length] at hf
   walk_at "rd"
   refine ⟨cs,xs,p,q,pz,cl,ws,ys,rfl,s2.tup hp,s2.tup hq,hx.mono s2,hn,s2 _ _ hpv,hw.mono s2,hwl,fun ho H3 s3=>?_,fun n ho d H3 s3 hd=>?_⟩
   ·refine ⟨_,.inl (.of (s3 _ _ hl2)),fun qw H4 s4 hqw=>⟨_,_,.inr (((s2.trans s3).trans s4).tup hp),rfl,by decide,fun pw H5 n5 s5 hpw=>?_⟩⟩
    refine kQ ss ?_ pw qw H5 (((s2.trans s3).trans s4).trans s5) (s5 _ _ hqw) hpw
    unfold fillM
    rw [hf,ho]
   ·refine kE n ?_ d H3 (s2.trans s3) hd
    unfold fillM
    rw [hf,ho]
theorem iqG (g : G K mg) : FnOk P w K mg base CX0 8 g.cqE g.cqk ["source", "goal", "way"] (iqR K) := by
 refine g.dqV.ok dqt (fun vs H Q E h=>?_) (fun cdv A outer s H vs Q E hr h=>?_)
 ·obtain ⟨r,ps,pg,w,v,rfl,_⟩ := h; rfl
 ·obtain ⟨⟨⟨cs,e⟩,ds,e'⟩,ps,pg,⟨wr,ss,we⟩,v,rfl,⟨ok1,ok2,ok3,ok4⟩,⟨q,xs,hp,hq,hx⟩,⟨q',ys,hp',hq',hy⟩,⟨pw,pt,rfl,hw,ht⟩,⟨hsz,hss⟩,k0,k⟩ := h
  refine ⟨_,(aqX (aqx (i := 3) dqt.nd rfl (Or.inl rfl) (aqk (oqS g) (hr.mono (by decide)) rfl g.oqf g.lqx.kp g.nqO .nil pass0 (aqa (pv 0) (aqa (pv 2) aqb))))
   (aqh (aqB (aql jqR (pv 3) cqz (nomark _))
    (aqf (aqn cqz)) aqu)
   (aqh (aqx (i := 4) dqt.nd rfl (Or.inr rfl) (aqk (iqd g) (hr.mono (by decide)) rfl g.gqF g.fqc.kp g.gqU .nil pass0 (aqa (aqp (aqe (K := K) rfl) (pv 1) (aqW (v := eq4) rfl g.dqU ⟨_,rfl⟩) (fun _ _=>rfl)) aqb)))
   (aqf (qqs (rqD (nqt (nqf g) (hr.mono (by decide)) rfl g.mqr g.jqL.kp g.mql (aqa (pv 1) (aqa (dqu (fx := ["names"]) (fr := [4]) rfl rfl (by decide +kernel) rfl (by decide +kernel) rfl (by decide +kernel) rfl (.cons rfl rfl rfl rfl .nil) rfl (fqe (K := K) rfl (pv 3)) (fun _ _ _=>(fq9 (aql (gqT (K := K) rfl) (aqp (aqe (K := K) rfl) (pv 0) aqc (fun _ _=>rfl)) (pv 1) (by with_unfolding_all rfl)))) (fun _ _ _=>(pv 0))) aqb)) (fun _ _ h=>h))) rfl rfl rfl g.gqg g.jqZ (fun _=>(aqf (aqn cqz)))))))),?_⟩
  dsimp only at ok1 ok2 ok3 ok4 hp hx hp' hy hw ht hsz hss
  walk_at "rd"
  refine ⟨fun σ H1=>Same H H1 /\ ∃ x,σ = [some (.ref ps),some (.ref pg),some (.ref pw),some x,none] /\ ((fitsP cs e wr ss we = false /\ x = .non) \/ (fitsP cs e wr ss we = true /\ ∃ (l : Addr) (zs : List V),x = .ref l /\ H1 l = some (.lst zs) /\ BndV H1 l (boundM cs ss) zs)),?_,?_⟩
  ·exact ⟨cs,xs,ps,q,pw,pt,e,wr,we,ss,rfl,.of hp,hq,hx.all,by omega,nqG ok3,.of hw,ht,hsz,fun s hs=>by have := (hss s hs).1; omega,fun hf H1 s1=>⟨s1,.non,rfl,.inl ⟨hf,rfl⟩⟩,fun hf l zs H1 s1 hl hb=>⟨s1,.ref l,rfl,.inr ⟨hf,l,zs,rfl,hl,hb⟩⟩⟩
  rintro σ H1 ⟨s1,x,rfl,hx1⟩
  walk_at "rd"
  rcases hx1 with ⟨hf,rfl⟩ | ⟨hf,l,zs,rfl,hl,hb⟩
  ·refine ite2 (fun _=>k0 ?_ H1 s1) (fun z=>absurd rfl z)
   unfold ledR
   rw [if_neg (by rw [hf]; decide)]
  have hL : ledR ((cs,e),ds,e') (wr,ss,we) = match fillM ds (keptV cs ds ss) with | .ok ss=>some (true,ss,e') | .error _=>none := if_pos hf
  refine ite2 (fun z=>by cases z) (fun _=>⟨_,_,.inr (.of (s1 _ _ hp')),rfl,ds,ys,q',rfl,.of (s1 _ _ hq'),(hy.mono s1.toT).all,by omega,fun pn H2 s2 hpn=>?_⟩)
  refine ⟨l,rfl,⟨_,.of (s2 _ _ hl)⟩,fun pf n3=>?_⟩
  have hbl := hb.length
  have hvl := hb.vls
  have blen : (boundM cs ss).length <= 90 := by
   have := congrArg List.length (fqp cs ss)
   rw [List.length_map] at this
   have := lq9 cs
   omega
  have hvl2 : VlsV H2 ((boundM cs ss).map fun p=>(p.1,vlD p.2)) zs := hvl.mono s2
  let fg : V -> Bool := fun x=>match x with
   | .ref p=>(match H2 p with
    | some (.tup (a :: _))=>inV a ((gapsM ds).map tV)
    | _=>false)
   | _=>false
  have hfg : ∀ p n v,H2 p = some (.tup [tV n,v]) -> fg (.ref p) = decide (n ∈ gapsM ds) := fun p n v h=>by
   show (match H2 p with | some (.tup (a :: _))=>inV a ((gapsM ds).map tV) | _=>false) = _
   rw [h]
   exact iqg n (gapsM ds)
  refine nqd fg (fun x=>x) (.of (s2 _ _ hl)) (aqq (by omega)) n3 (fun i x hxi H3 R s3 hR=>?_) (fun i x hxi ht' H3 T s3 hT=>?_) (fun H3 s3 hpf=>?_)
  ·obtain ⟨n,d,p,v,h1,rfl,h3,h4⟩ := hvl2.get hxi
   rw [hfg p n v h3] at hR
   walk_at "rd"
   refine ⟨_,_,.inr (.of (s3 _ _ h3)),aqi (j := 0) rfl,pn,_,rfl,.inl (.of (s3 _ _ hpn)),rfl,?_,_,rfl,?_⟩
   ·exact List.all_eq_true.mpr fun y hy=>by obtain ⟨z,_,rfl⟩ := List.mem_map.mp hy; rfl
   rw [if_neg (show ¬ false = true by decide),show inV (tV n) ((gapsM ds).map tV) = decide (n ∈ gapsM ds) from iqg n (gapsM ds)]
   exact hR H3 (Same.refl _)
  ·walk_at "rd"
   exact hT H3 (Same.refl _)
  rw [List.map_id'] at hpf
  have hv3 : VlsV H3 (keptV cs ds ss) (zs.filter fg) := (VlsV.filter (fun n=>decide (n ∈ gapsM ds)) fg hvl2 hfg).mono s3
  have s03 := (s1.trans s2).trans s3
  have bok := lq4 (cs := cs) (fun s hs=>⟨(hss s hs).2,(hss s hs).1⟩) (show ss.length <= 20000 by omega)
  have hkl : (keptV cs ds ss).length <= 90 := by
   unfold keptV
   refine Nat.le_trans (List.length_filter_le _ _) ?_
   rw [List.length_map]
   exact blen
  refine ⟨ds,ys,pg,q',pf,e',keptV cs ds ss,_,rfl,.of (s03 _ _ hp'),.of (s03 _ _ hq'),(hy.mono s03.toT).all,by omega,nqG ok4,hpf,hv3,by omega,fun w hw' => ?_,fun ss' hok pw' qw' H4 s4 hq4 hp4=>?_,fun n he d H4 s4 hd=>⟨_,rfl,g.dqC,fun a ha=>?_⟩⟩
  ·obtain ⟨p,hp0,rfl⟩ := List.mem_map.mp (List.mem_filter.mp hw').1
   exact (bok p hp0).small
  ·rw [hok] at hL
   exact k _ _ H4 hL (s03.trans s4) ⟨pw',qw',rfl,hp4,hq4⟩
  ·rw [he] at hL
   exact k0 hL _ ((s03.trans s4).trans (aqR ha))
theorem kqG (g : G K mg) : FnOk P w K mg base CX0 9 g.hqp g.fqX ["rules", "way"] (nqW K) := by
 refine g.hqx.ok gqf (fun vs H Q E h=>?_) (fun cdv A outer s H vs Q E hr h=>?_)
 ·obtain ⟨rs,lr,rv,w,v,rfl,_⟩ := h; rfl
 ·obtain ⟨rs,lr,rv,w,v,rfl,hlr,hrs,hrl,hok,hw,hsz,k0,k⟩ := h
  refine ⟨_,(aqh (cqW PassesOwn.never rfl (fqe (K := K) rfl (pv 0)) (gqL (n := 2) (K := K) rfl rfl (aq0 (aqF (i := 2) gqf.nd rfl (Or.inl rfl)) (aq0 (aqF (i := 3) gqf.nd rfl (Or.inl rfl)) fqB)))
   (aqh (aqx (i := 4) gqf.nd rfl (Or.inl rfl) (aqk (iqG g) (hr.mono (by decide)) rfl g.fqJ g.dqV.kp g.fq0 .nil pass0 (aqa (pv 2) (aqa (pv 3) (aqa (pv 1) aqb)))))
   (aqf (aqB (aql hqh (pv 4) cqz (nomark _))
    (aqf (aqn (pv 4))) aqu))))
   (aqf (aqn cqz))),?_⟩
  walk_at "rd"
  refine ⟨⟨_,.of hlr⟩,?_⟩
  refine hqS (xs := rv) (fun i σ H' => Same H H' /\ (∀ q ∈ rs.take i,ledR q w = none) /\ ∃ v2 v3 v4,σ = [some (.ref lr),some v,v2,v3,v4]) ⟨Same.refl _,(fun q hq=>by rw [List.take_zero] at hq; cases hq),none,none,none,rfl⟩ (fun i σ H' _ h=>.of (h.1 _ _ hlr)) ?_ ?_
  ·rintro i x σ H1 hxi ⟨s1,hpre,v2,v3,v4,rfl⟩
   obtain ⟨r,hr,p,ps,pg,rfl,h1,h2,h3⟩ := hrs.2 i x hxi
   walk_at "rd"
   refine ⟨p,_,rfl,.of (s1 _ _ h1),rfl,_,_,rfl,_,_,rfl,rfl,?_⟩
   refine ⟨r,ps,pg,w,v,rfl,hok r (List.mem_of_getElem? hr),h2.mono s1.toT,h3.mono s1.toT,hw.mono s1.toT,hsz,fun hn H2 s2=>?_,fun w' v' H2 hl s2 hv' => ?_⟩
   ·refine ite2 (fun z=>absurd rfl z) (fun _=>⟨s1.trans s2,fun q hq=>?_,_,_,_,rfl,rfl,rfl⟩)
    rw [List.take_add_one,hr] at hq
    rcases List.mem_append.mp hq with y | y
    ·exact hpre q y
    ·have : q = r := by simpa using y
     rw [this]; exact hn
   ·have hvn : v' ≠ .non := by obtain ⟨_,_,rfl,_⟩ := hv'; exact fun z=>by cases z
    exact ite2 (fun _=>k w' v' H2 (lqd hr hpre hl) (s1.trans s2) hv') (fun z=>absurd hvn z)
  ·rintro σ H1 ⟨s1,hpre,v2,v3,v4,rfl⟩
   rw [hrs.1,List.take_length] at hpre
   walk_at "rd"
   exact k0 (kqW hpre) H1 s1
theorem bqO (g : G K mg) : FnOk P w K mg base CX0 10 g.dqf g.cqC ["_law_rules", "_law_way_here"] (gqm K) := by
 refine g.bqe.ok bql (fun vs H Q E h=>?_) (fun cdv A outer s H vs Q E hr h=>?_)
 ·obtain ⟨rs,lr,rv,w,v,rfl,_⟩ := h; rfl
 ·obtain ⟨rs,lr,rv,w,v,rfl,hlr,hrs,hrl,hro,hw,hsz,hne,hw4,hw1,k⟩ := h
  refine ⟨_,(aqX (aqx (i := 2) bql.nd rfl (Or.inl rfl) (aqG (cqQ (K := K) rfl) rfl g.gqX fqA (aqa (pv 0) aqb)))
   (aqh (cqW PassesOwn.never rfl (bqs rfl g.cq2 (aqa aqc aqb)) (aqF (i := 3) bql.nd rfl (Or.inl rfl))
   (aqX (aqx (i := 4) bql.nd rfl (Or.inl rfl) (aqk (lqS g) (hr.mono (by decide)) rfl g.jqi g.gqI.kp g.iq4 .nil pass0 (aqa (pv 2) (aqa (pv 1) aqb))))
   (aqh (aqx (i := 5) bql.nd rfl (Or.inl rfl) (aqG (cqQ (K := K) rfl) rfl g.gqX fqA (aqa (pv 2) aqb)))
   (aqh (aqx (i := 6) bql.nd rfl (Or.inl rfl) (aqk (kqG g) (hr.mono (by decide)) rfl g.jqJ g.hqx.kp g.jqP .nil pass0 (aqa (pv 2) (aqa (pv 1) aqb))))
   (aqh (aqB (PW.pt (eqn (aql (hq6 hr.units) (pv 2) (pv 5) (nomark _)) (cq4 (aql hqX (aqC jqR (pv 6) cqz (nomark _)) (aqC jqR (pv 4) cqz (nomark _)) (nomark _)))))
    (aqf (aqn cqV)) aqu)
   (aqh (aqB (PW.pt (jqc (aql hqh (pv 4) cqz (nomark _)) (gqy (PW.pt (eqn (bqG (bqc (aqk (iqM g) (hr.mono (by decide)) rfl g.fq5 g.dq7.kp g.fqL .nil pass0 (aqa (pv 6) aqb)))) (cq4 (aql (hq6 hr.units) (pv 6) (pv 4) (nomark _))))))))
    (aqf (aqn cqV)) aqu)
   (aqf (cqh (rqc (K := K) rfl PySem.F.plainAttrs_list PySem.F.slot_list_reverse PySem.F.type_list_reverse mqE (pv 2))))))))))
   (aqf (aqn cqV)))),?_⟩
  walk_at "rd"
  refine ⟨fun σ H1=>Same H H1 /\ ∃ lh : Addr,σ = [some (.ref lr),some v,some (.ref lh),none,none,none,none] /\ H lh = none /\ H1 lh = some (.lst rv),⟨_,.inl (.of hlr),fun lh H1 n1 s1 hlh=>⟨s1,lh,rfl,n1,hlh⟩⟩,?_⟩
  rintro σ H1 ⟨s1,lh,rfl,hln,hlh⟩
  walk_at "rd"
  refine ⟨by decide,by decide,?_⟩
  refine cqf (fun i σ H' => Same H H' /\ ∃ (rs : List (Pt × Pt)) (rv : List V) (v3 v4 v5 v6 : Option V),σ = [some (.ref lr),some v,some (.ref lh),v3,v4,v5,v6] /\ H' lh = some (.lst rv) /\ RlsAt H' rs rv /\ rs.length <= 1000 /\ ∀ r ∈ rs,RlGood r) ⟨s1,rs,rv,none,none,none,none,rfl,hlh,hrs.mono s1.toT,hrl,hro⟩ ?_ ?_
  ·clear hlh s1 hrs hro hrl hlr
   rintro i σ H2 hi ⟨s2,rs,rv,v3,v4,v5,v6,rfl,hlh,hrs,hrl,hro⟩
   walk_at "rd"
   have rlay : SeqAt.shaped (.list (rs.map rlD)) = true := (layL (n := 4) fun d hd=>by obtain ⟨r,hr,rfl⟩ := List.mem_map.mp hd; exact (hro r hr).sg).shaped (by decide)
   have hw2 := hw.mono s2.toT
   refine ⟨fun σ H3=>Same H2 H3 /\ ∃ x4 : V,σ = [some (.ref lr),some v,some (.ref lh),some (.int (0 + (i : Int))),some x4,v5,v6] /\ ((ledM rs w = none /\ x4 = .non) \/ ∃ u,ledM rs w = some u /\ WyH H3 u x4),?_,?_⟩
   ·exact ⟨rs,lh,rv,w,v,rfl,hlh,hrs,hrl,hro,hw2,hsz,hne,fun hno H3 s3=>⟨s3,.non,rfl,.inl ⟨hno,rfl⟩⟩,fun u x H3 hs s3 hx=>⟨s3,x,rfl,.inr ⟨u,hs,hx⟩⟩⟩
   rintro σ H3 ⟨s3,x4,rfl,hx4⟩
   walk_at "rd"
   refine ⟨_,.inl (.of (s3 _ _ hlh)),fun lk H4 n4 s4 hlk=>?_⟩
   have s24 := s3.trans s4
   refine ⟨rs,lh,rv,w,v,rfl,s24 _ _ hlh,hrs.mono s24.toT,hrl,fun r hr=>(hro r hr).1,hw2.mono s24.toT,hsz,fun hno H5 s5=>?_,fun u x6 H5 hs s5 hx6=>?_⟩
   ·have e4 : x4 = .non := by
     rcases hx4 with ⟨_,z⟩ | ⟨u,z,_⟩
     ·exact z
     ·rw [hno] at z; cases z
    subst e4
    have s25 := s24.trans s5
    refine ⟨.list (rs.map rlD),.list (rs.map rlD),.lst (s25 _ _ hlh) (hrs.mono s25.toT).isAll,.lst (s5 _ _ hlk) (hrs.mono s25.toT).isAll,rlay,rlay,_,rfl,?_⟩
    rw [lqZ fun d hd=>by obtain ⟨r,_,rfl⟩ := List.mem_map.mp hd; exact qqf r]
    refine ite2 (fun z=>by cases z) (fun _=>ite2 (fun z=>absurd rfl z) (fun _=>ite2 (fun z=>absurd rfl z) (fun _=>?_)))
    have t6 : SameT H5 (upd H5 lh (.lst rv.reverse)) := dqE (s25 _ _ hlh)
    exact ⟨⟨_,.of (s25 _ _ hlh)⟩,_,s25 _ _ hlh,eqf (s2.trans s25) hln,rs.reverse,rv.reverse,_,_,_,_,⟨rfl,rfl,rfl,rfl⟩,aqj,((hrs.mono s25.toT).mono t6).rev,by rw [List.length_reverse]; exact hrl,fun r hr=>hro r (List.mem_reverse.mp hr)⟩
   ·obtain ⟨hx4⟩ : WyH H3 u x4 /\ True := by
     rcases hx4 with ⟨z,_⟩ | ⟨u',z,h⟩
     ·rw [hs] at z; cases z
     ·rw [hs] at z; cases z; exact ⟨h,trivial⟩
    have n4' : x4 ≠ .non := by obtain ⟨_,_,rfl,_⟩ := hx4; exact fun z=>by cases z
    have n6' : x6 ≠ .non := by obtain ⟨_,_,rfl,_⟩ := hx6; exact fun z=>by cases z
    obtain ⟨r,hr,hlr'⟩ := nq3 hs
    obtain ⟨o1,_,_,_,o5,o6⟩ := hro r hr
    obtain ⟨q1,q2⟩ := oqk (L := 1000) o1 o5 (by decide) (fun s hs=>⟨(hsz.2 s hs).2,hw1 s hs⟩) hlr'
    have q3 := sq7 o1.2.2.2 hlr'
    have zu : WySz u := ⟨by omega,fun s hs=>⟨by have := (q2 s hs).2; omega,(q2 s hs).1⟩⟩
    have s25 := s24.trans s5
    refine ⟨.list (rs.map rlD),.list (rs.map rlD),.lst (s25 _ _ hlh) (hrs.mono s25.toT).isAll,.lst (s5 _ _ hlk) (hrs.mono s25.toT).isAll,rlay,rlay,_,rfl,?_⟩
    rw [lqZ fun d hd=>by obtain ⟨r,_,rfl⟩ := List.mem_map.mp hd; exact qqf r]
    refine ite2 (fun z=>by cases z) (fun _=>ite2 (fun z=>absurd (by rw [decide_eq_false n4',decide_eq_false n6']) z) (fun _=>ite2 (fun _=>?_) (fun z=>absurd n4' z)))
    obtain ⟨p6,t6,rfl,g1,g2⟩ := id hx6
    refine ⟨p6,t6,u.1,u.2.2,u.2.1,rfl,g1,g2,zu.1,q3,fun H6 s6=>⟨_,rfl,ite2 (fun z=>by cases z) (fun _=>?_)⟩⟩
    have s26 := s25.trans s6
    refine ⟨wyDD u,wyDD u,(hx6.mono s6.toT).is,(hx4.mono (s4.trans (s5.trans s6)).toT).is,zu.shaped,zu.shaped,_,rfl,?_⟩
    rw [pqX,decide_eq_true rfl]
    refine ite2 (fun z=>by cases z) (fun _=>?_)
    have t7 : SameT H6 (upd H6 lh (.lst rv.reverse)) := dqE (s26 _ _ hlh)
    exact ⟨⟨_,.of (s26 _ _ hlh)⟩,_,s26 _ _ hlh,eqf (s2.trans s26) hln,rs.reverse,rv.reverse,_,_,_,_,⟨rfl,rfl,rfl,rfl⟩,aqj,((hrs.mono s26.toT).mono t7).rev,by rw [List.length_reverse]; exact hrl,fun r hr=>hro r (List.mem_reverse.mp hr)⟩
  ·rintro σ H2 ⟨s2,rs,rv,v3,v4,v5,v6,rfl,hlh,hrs,hrl,hro⟩
   walk_at "rd"
   exact k H2 s2
theorem sqd (g : G K mg) : FnOk P w K mg base CX0 11 g.oqT g.kqR ["_law_script"] (mqn K) := by
 refine g.sqq.ok gq9 (fun vs H Q E h=>?_) (fun cdv A outer s H vs Q E hr h=>?_)
 ·obtain ⟨a,ns,rfl,_⟩ := h; rfl
 ·obtain ⟨a,ns,rfl,hS,hn,k⟩ := h
  refine ⟨_,(aqh (aqx (i := 1) gq9.nd rfl (Or.inr rfl) (aqk (jqp g) (hr.mono (by decide)) rfl g.gqZ g.eqM.kp g.gq6 .nil pass0 (aqa (aqk (bqW g) (hr.mono (by decide)) rfl g.bqu g.aq4.kp g.bqv .nil pass0 (aqa (pv 0) (aqa aqc aqb))) (aqa aqc aqb))))
   (aqh (aqx (i := 2) gq9.nd rfl (Or.inr rfl) (aqk (jqt g) (hr.mono (by decide)) rfl g.gqY g.eqt.kp g.gq3 .nil pass0 (aqa (aqk (bqW g) (hr.mono (by decide)) rfl g.bqu g.aq4.kp g.bqv .nil pass0 (aqa (pv 0) (aqa aqc aqb))) aqb)))
   (aqX (nqJ (i := 3) (fx := ["_law_names_here", "_law_signs_here", "_law_script"]) (fr := [1,2,0]) gq9.nd rfl rfl rfl rfl (by decide +kernel) rfl (by decide +kernel) rfl (by decide +kernel) rfl (.cons rfl rfl rfl rfl (.cons rfl rfl rfl rfl (.cons rfl rfl rfl rfl .nil))) rfl (bqs rfl g.cq2 (aqa aqc aqb)) (fun _ _ _=>jqf) (fun _ _ _=>(aqk (kqM g) (hr.mono (by decide)) rfl g.iqe g.fqz.kp g.iqf .nil pass0 (aqa (aqk (gqk g) (hr.mono (by decide)) rfl g.eqJ g.dqh.kp g.eqr .nil pass0 (aqa (pv 3) (aqa (aqr (aqz (K := K)) aqc (aqr cqe aqc (pv 0))) (aqa aqc aqb)))) (aqa (pv 1) (aqa (pv 2) aqb))))))
   (aqX (aqx (i := 4) gq9.nd rfl (Or.inl rfl) (dqq (jqz (K := K) rfl) (pv 3) fqq (cqs (aqr aqN (aqk (bqW g) (hr.mono (by decide)) rfl g.bqu g.aq4.kp g.bqv .nil pass0 (aqa (pv 0) (aqa aqc aqb))) aqc))))
   (aqh (cqW PassesOwn.never rfl (mqz (K := K) rfl rfl g.cqX (aqa (pv 3) aqb)) (gqL (n := 2) (K := K) rfl rfl (aq0 (aqF (i := 5) gq9.nd rfl (Or.inl rfl)) (aq0 (aqF (i := 6) gq9.nd rfl (Or.inl rfl)) fqB)))
   (aqX (aqx (i := 7) gq9.nd rfl (Or.inl rfl) (aqk (lqj g) (hr.mono (by decide)) rfl g.iqV g.gqK.kp g.iq2 .nil pass0 (aqa (aqp (aqe (K := K) rfl) (pv 6) aqc (fun _ _=>rfl)) (aqa (aqk (gqk g) (hr.mono (by decide)) rfl g.eqJ g.dqh.kp g.eqr .nil pass0 (aqa (pv 0) (aqa (aqr (aqz (K := K)) aqc (aqr cqe aqc (pv 5))) (aqa aqc aqb)))) (aqa (pv 2) aqb)))))
   (aqX (aqB (PW.pt (eqn (bqG (bqc (aqk (bqO g) (hr.mono (by decide)) rfl g.bqE g.bqe.kp g.bqK .nil pass0 (aqa (pv 4) (aqa (pv 7) aqb))))) (eqn (bqG (bqc (aqk (bqO g) (hr.mono (by decide)) rfl g.bqE g.bqe.kp g.bqK .nil pass0 (aqa (aqL (aqa (pv 6) aqb)) (aqa (pv 7) aqb))))) (cq4 (bqG (bqc (aqk (bqO g) (hr.mono (by decide)) rfl g.bqE g.bqe.kp g.bqK .nil pass0 (aqa (mqD (K := K) rfl (pv 3) fqq fqq (cqs (lqm hqC aqc))) (aqa (pv 7) aqb)))))))))
    (aqf (aqn cqV)) aqu)
   (aqh (aqB (PW.pt (jqc (aql (hq6 hr.units) (aqp (aqe (K := K) rfl) (pv 7) aqc (fun _ _=>rfl)) (aq8 aqb) (nomark _)) (gqy (bqG (bqc (aqk (bqO g) (hr.mono (by decide)) rfl g.bqE g.bqe.kp g.bqK .nil pass0 (aqa (pv 4) (aqa (aq8 (aqa cqV (aqa (aqp (aqe (K := K) rfl) (pv 7) aqc (fun _ _=>rfl)) (aqa (lq7 (aqp (aqe (K := K) rfl) (pv 7) aqc (fun _ _=>rfl))) aqb)))) aqb))))))))
    (aqf (aqn cqV)) aqu)
   (aqf (aqB (PW.pt (eqn (aql hqh (aqk (kqG g) (hr.mono (by decide)) rfl g.jqJ g.hqx.kp g.jqP .nil pass0 (aqa (aqL aqb) (aqa (pv 7) aqb))) cqz (nomark _)) (cq4 (bqG (bqc (aqk (bqO g) (hr.mono (by decide)) rfl g.bqE g.bqe.kp g.bqK .nil pass0 (aqa (pv 4) (aqa (aq8 (aqa (aqC (iqX hr.units) (aqp (aqe (K := K) rfl) (pv 7) aqc (fun _ _=>rfl)) (aq8 aqb) (nomark _)) (aqa (aqp (aqe (K := K) rfl) (pv 7) aqc (fun _ _=>rfl)) (aqa (aqp (aqe (K := K) rfl) (pv 7) aqc (fun _ _=>rfl)) aqb)))) aqb))))))))
    (aqf (aqn cqV)) aqu))))))
   (aqf (aqn cqV))))))),?_⟩
  walk_at "rd"
  refine ⟨a,ns,0,rfl,hS,_,7,rfl,by decide,fun nm pn H1 h1 h2 h3 s1 h4=>?_⟩
  have hnsg : ∀ n ∈ nm,∀ x ∈ n,isSg x = true := fun n hn' => sqi (h2 n hn').2.2
  refine ⟨a,ns,1,rfl,s1.seq hS,_,rfl,fun g1 H2 hg0 hg1 hgs s2=>?_⟩
  have s02 := s1.trans s2
  have hpn2 := s2 _ _ h4
  refine ⟨fun σ H3=>Same H2 H3 /\ ∃ (rs : List (Pt × Pt)) (lr : Addr) (rv : List V),σ = [some (.ref a),some (.ref pn),some (tV g1),some (.ref lr),none,none,none,none] /\ H3 lr = some (.lst rv) /\ RlsAt H3 rs rv /\ rs.length = 4 /\ ∀ r ∈ rs,RlGood r,?_,?_⟩
  ·refine ⟨by decide,by decide,fun p n=>?_⟩
   refine iqr (fun i ys H' => Same H2 H' /\ ∃ rs : List (Pt × Pt),RlsAt H' rs ys /\ rs.length = i /\ ∀ r ∈ rs,RlGood r) (aqq (by decide)) ⟨aqR n,[],⟨rfl,fun i v hv=>by simp at hv⟩,rfl,fun r hr=>by cases hr⟩ (fun i ys H3 T hi hJ hp2 hT=>?_) (fun ys H3 hJ hp2=>?_)
   ·obtain ⟨s3,rs,hrs,hrl,hro⟩ := hJ
    walk_at "rd"
    have e3 : (3 + 10 * (0 + (i : Int))) = ((3 + 10 * i : Nat) : Int) := by omega
    rw [e3]
    refine ⟨.inl ⟨by decide,by decide⟩,a,ns,3 + 10 * i,10,rfl,(s02.trans s3).seq hS,by decide,fun is1 q1 H4 hi1 s4 hq1=>?_⟩
    refine ⟨q1,pn,g1,nm,is1,rfl,hq1,hi1,(s3.trans s4) _ _ hpn2,h1,h3,hnsg,hg0,by omega,hgs,fun r v H5 r1 r2 r3 r4 r5 r6 r7 s5 hv=>?_⟩
    have s45 := s4.trans s5
    have hpu := s45 _ _ hp2
    have hyl := hrs.1
    have tt : SameT H5 (upd H5 p (.lst (ys ++ [v]))) := dqE hpu
    refine hT v H5 hpu ⟨eqf (s3.trans s45) n,rs ++ [r],⟨by rw [List.length_append,List.length_append,hyl]; rfl,fun j x hx=>?_⟩,by rw [List.length_append,hrl]; rfl,fun z hz=>?_⟩
    ·by_cases hj : j < ys.length
     ·rw [List.getElem?_append_left hj] at hx
      obtain ⟨r',g1',g2'⟩ := hrs.2 j x hx
      exact ⟨r',by rw [List.getElem?_append_left (by omega)]; exact g1',(g2'.mono s45.toT).mono tt⟩
     ·have ej : j = ys.length := by
       have := (List.getElem?_eq_some_iff.mp hx).1
       rw [List.length_append,List.length_singleton] at this
       omega
      subst ej
      rw [List.getElem?_append_right (Nat.le_refl _),Nat.sub_self] at hx
      cases hx
      exact ⟨r,by rw [List.getElem?_append_right (by omega),hyl,Nat.sub_self]; rfl,hv.mono tt⟩
    ·rcases List.mem_append.mp hz with y | y
     ·exact hro z y
     ·rw [List.mem_singleton.mp y]; exact ⟨r1,r2,r6,r7,r4,r3⟩
   ·obtain ⟨s3,rs,hrs,hrl,hro⟩ := hJ
    exact ⟨s3,rs,p,ys,rfl,hp2,hrs,hrl,hro⟩
  rintro σ H3 ⟨s3,rs0,lr0,rv0,rfl,hlr0,hrs0,hrl0,hro0⟩
  have s03 := s02.trans s3
  have hrv0 := hrs0.1
  walk_at "rd"
  have pk : ∀ l : List V,l.length = 4 -> pickV l none none (some (-1)) = l.reverse := fun l hl=>by
   unfold pickV
   rw [hl]
   have e : (sliceRange (sliceBounds none none (some (-1)) 4).1 (sliceBounds none none (some (-1)) 4).2.1 (sliceBounds none none (some (-1)) 4).2.2) = [3,2,1,0] := by decide +kernel
   rw [e]
   match l,hl with
   | [_,_,_,_],_=>rfl
  have nat_mod : ∀ (x y : Int),0 < y -> ∃ z : Nat,x % y = (z : Int) /\ (z : Int) < y := fun x y hy=>by
   have h1 := Int.emod_nonneg x (show y ≠ 0 by omega)
   have h2 := Int.emod_lt_of_pos x hy
   exact ⟨(x % y).toNat,by omega,by omega⟩
  obtain ⟨m4,em4,hm4⟩ := nat_mod (ns.getD 2 0) 5 (by decide)
  refine ⟨fun σ H4=>Same H3 H4 /\ ∃ (rs : List (Pt × Pt)) (lr : Addr) (rv : List V),σ = [some (.ref a),some (.ref pn),some (tV g1),some (.ref lr0),some (.ref lr),none,none,none] /\ H4 lr = some (.lst rv) /\ RlsAt H4 rs rv /\ rs.length <= 4 /\ ∀ r ∈ rs,RlGood r,?_,?_⟩
  ·refine ⟨a,ns,2,rfl,s03.seq hS,rd_I.mpr ⟨by decide,?_⟩⟩
   rw [em4]
   walk_at "rd"
   refine ⟨_,.of hlr0,fun p4 H4 n4 s4 hp4=>?_⟩
   rw [mqh] at hp4
   exact ⟨s4,rs0.take m4,p4,_,rfl,hp4,(hrs0.mono s4.toT).take m4,by rw [List.length_take]; omega,fun r hr=>hro0 r (List.mem_of_mem_take hr)⟩
  rintro σ H4 ⟨s4,rs,lr,rv,rfl,hlr,hrs,hrl,hro⟩
  have s04 := s03.trans s4
  have hlr04 := s4 _ _ hlr0
  have hrs04 := hrs0.mono s4.toT
  walk_at "rd"
  refine ⟨lr0,rv0,rfl,.of hlr04,?_⟩
  refine mqQ (fun i σ H' => Same H4 H' /\ ∃ v5 v6 v7,σ = [some (.ref a),some (.ref pn),some (tV g1),some (.ref lr0),some (.ref lr),v5,v6,v7]) ⟨Same.refl _,none,none,none,rfl⟩ (fun i σ H' _ h=>.of (h.1 _ _ hlr04)) ?_ ?_
  ·rintro i x σ H5 T hxi ⟨s5,v5,v6,v7,rfl⟩ hT
   obtain ⟨r,hr,p,ps,pg,rfl,hp1,hp2,hp3⟩ := hrs04.2 i x hxi
   have hgr := hro0 r (List.mem_of_getElem? hr)
   have s56 : Same H5 (upd H5 T (.tup [.int (i : Int),.ref p])) := aqR hT
   have hTT : upd H5 T (.tup [.int (i : Int),.ref p]) T = some (.tup [.int (i : Int),.ref p]) := aqj
   have s6 := s5.trans s56
   generalize upd H5 T (.tup [.int (i : Int),.ref p]) = H6 at s56 hTT s6
   walk_at "rd"
   refine ⟨T,_,rfl,.of hTT,rfl,_,_,rfl,_,_,rfl,rfl,?_⟩
   refine ⟨fun σ H7=>Same H6 H7 /\ ∃ (wr wt : Addr) (wa wb : Bool) (ss : List (List Nat)),σ = [some (.ref a),some (.ref pn),some (tV g1),some (.ref lr0),some (.ref lr),some (.int (i : Int)),some (.ref p),some (.ref wr)] /\ H7 wr = some (.tup [.bl wa,.ref wt,.bl wb]) /\ H7 wt = some (.tup (ss.map tV)) /\ StepsOk ss,?_,?_⟩
   ·refine eqN.mpr ⟨_,_,.inr (.of (s6 _ _ hp1)),aqi (j := 0) rfl,?_⟩
    walk_at "rd"
    rw [show (43 + 5 * (i : Int)) = ((43 + 5 * i : Nat) : Int) by omega]
    refine ⟨.inl ⟨by decide,by decide⟩,a,ns,43 + 5 * i,8,rfl,(s04.trans s6).seq hS,by decide,fun is1 q1 H7 hi1 s7 hq1=>?_⟩
    refine ⟨r.1.1,r.1.2,ps,q1,g1,is1,rfl,hgr.2.1,hp2.mono (s6.trans s7).toT,hq1,hi1,hg0,by omega,hgs,fun v H8 s8 hv=>?_⟩
    obtain ⟨wr,wt,wa,wb,ss,rfl,hw1,hw2,hss,_⟩ := hv
    exact ⟨s7.trans s8,wr,wt,wa,wb,ss,rfl,hw1,hw2,hss⟩
   rintro σ H7 ⟨s7,wr,wt,wa,wb,ss,rfl,hw1,hw2,hss⟩
   have s47 := s6.trans s7
   have right : ∀ {H8 : Hp} {Q' : VK} {rs : List (Pt × Pt)} {lr : Addr} {rv : List V} {b b' : Bool} {wp : Addr},H8 lr = some (.lst rv) -> RlsAt H8 rs rv -> rs.length <= 4 -> (∀ r ∈ rs,RlGood r) -> H8 wp = some (.tup [.bl b,.ref wt,.bl b']) -> H8 wt = some (.tup (ss.map tV)) -> (∀ H',Same H8 H' -> Q' (.bl true) H') -> gqm K [.ref lr,.ref wp] H8 Q' E0 := fun {H8 Q' rs lr rv b b' wp} h1 h2 h3 h4 h5 h6 kk =>
    ⟨rs,lr,rv,(b,ss,b'),.ref wp,rfl,h1,h2,by omega,h4,⟨wp,wt,rfl,h5,h6⟩,⟨by have := hss.1; show ss.length <= 500; omega,fun s hs=>⟨by have := (hss.2 s hs).2.1; omega,(hss.2 s hs).2.2⟩⟩,fun s hs=>List.length_pos_iff.mp (hss.2 s hs).1,by have := hss.1; show ss.length <= 400; omega,fun s hs=>(hss.2 s hs).2.1,kk⟩
   walk_at "rd"
   have one : RlsAt H7 [r] [.ref p] := ⟨rfl,fun j v hv=>by
    have ej : j = 0 := by have := (List.getElem?_eq_some_iff.mp hv).1; simpa using this
    subst ej
    cases hv
    exact ⟨r,rfl,p,ps,pg,rfl,s47 _ _ hp1,hp2.mono s47.toT,hp3.mono s47.toT⟩⟩
   refine ⟨fun σ H8=>Same H7 H8 /\ σ = [some (.ref a),some (.ref pn),some (tV g1),some (.ref lr0),some (.ref lr),some (.int (i : Int)),some (.ref p),some (.ref wr)],?_,?_⟩
   ·refine right (s47 _ _ hlr) (hrs.mono s47.toT) hrl hro hw1 hw2 fun H8 s8=>⟨_,rfl,ite2 (fun z=>by cases z) (fun _=>⟨by decide,fun p9 H9 n9 s9 hp9=>?_⟩)⟩
    have s79 := s8.trans s9
    refine right hp9 (one.mono s79.toT) (by show 1 <= 4; decide) (fun r' hr' => by rw [List.mem_singleton.mp hr']; exact hgr) (s79 _ _ hw1) (s79 _ _ hw2) fun H10 s10=>⟨_,rfl,ite2 (fun z=>by cases z) (fun _=>?_)⟩
    have s710 := s79.trans s10
    have s410 := s47.trans s710
    refine ⟨lr0,_,rfl,.of (s410 _ _ hlr04),by decide,?_⟩
    rw [pk rv0 (by omega)]
    refine ⟨aqq (by rw [List.length_reverse]; omega),fun p11 n11=>?_⟩
    have s11 : Same H10 (upd H10 p11 (.lst rv0.reverse)) := aqR n11
    refine right aqj ((hrs04.mono (s410.trans s11).toT).rev) (by rw [List.length_reverse]; omega) (fun r' hr' => hro0 r' (List.mem_reverse.mp hr')) ((s710.trans s11) _ _ hw1) ((s710.trans s11) _ _ hw2) fun H12 s12=>⟨_,rfl,ite2 (fun z=>by cases z) (fun _=>⟨(s710.trans s11).trans s12,rfl⟩)⟩
   rintro σ H8 ⟨s8,rfl⟩
   have s48 := s47.trans s8
   have hw1 := s8 _ _ hw1
   have hw2 := s8 _ _ hw2
   walk_at "rd"
   have wsz : WySz (wa,ss,wb) := ⟨by have := hss.1; show ss.length <= 500; omega,fun s hs=>⟨by have := (hss.2 s hs).2.1; omega,(hss.2 s hs).2.2⟩⟩
   refine ⟨_,_,.inr (.of hw1),aqi (j := 1) rfl,by decide,fun p9 H9 n9 s9 hp9=>?_⟩
   refine ⟨.tuple (ss.map st),.tuple [],.tup (s9 _ _ hw2) (eq6 ss),.tup hp9 .nil,eqE fun l hl=>(hss.2 l hl).2.2,by decide +kernel,_,rfl,ite2 (fun _=>?_) (fun _=>?_)⟩
   ·refine ⟨_,_,.inr (.of (s9 _ _ hw1)),aqi (j := 1) rfl,_,_,.inr (.of (s9 _ _ hw1)),aqi (j := 2) rfl,_,rfl,by decide,fun p10 H10 n10 s10 hp10=>?_⟩
    have s810 := s9.trans s10
    refine right ((s48.trans s810) _ _ hlr) (hrs.mono (s48.trans s810).toT) hrl hro hp10 (s810 _ _ hw2) fun H11 s11=>⟨_,rfl,ite2 (fun z=>by cases z) (fun _=>?_)⟩
    have sF := s810.trans s11
    refine ⟨by decide,fun q1 A1 m1 t1 hq1=>?_⟩
    refine ⟨[],q1,[],(wa,ss,wb),.ref wr,rfl,hq1,⟨rfl,fun j v hv=>by simp at hv⟩,by decide,(fun r hr=>by cases hr),⟨wr,wt,rfl,(sF.trans t1) _ _ hw1,(sF.trans t1) _ _ hw2⟩,wsz,fun _ A2 t2=>?_,(fun u x A2 hl' => by cases hl')⟩
    refine ite2 (fun z=>absurd rfl z) (fun _=>?_)
    have u2 := sF.trans (t1.trans t2)
    refine ⟨_,_,.inr (.of (u2 _ _ hw1)),aqi (j := 1) rfl,by decide,fun q3 A3 m3 t3 hq3=>?_⟩
    have u3 := u2.trans t3
    refine ⟨.tuple (ss.map st),.tuple [],.tup (u3 _ _ hw2) (eq6 ss),.tup hq3 .nil,eqE fun l hl=>(hss.2 l hl).2.2,by decide +kernel,?_⟩
    refine ⟨_,_,.inr (.of (u3 _ _ hw1)),aqi (j := 1) rfl,_,_,.inr (.of (u3 _ _ hw1)),aqi (j := 2) rfl,by decide,fun q4 A4 m4 t4 hq4=>?_⟩
    have u4 := u3.trans t4
    refine right ((s48.trans u4) _ _ hlr) (hrs.mono (s48.trans u4).toT) hrl hro hq4 (u4 _ _ hw2) fun A5 t5=>⟨_,rfl,ite2 (fun z=>by cases z) (fun _=>⟨s48.trans (u4.trans t5),_,_,_,rfl,rfl,rfl⟩)⟩
   ·have sF := s9
    refine ⟨by decide,fun q1 A1 m1 t1 hq1=>?_⟩
    refine ⟨[],q1,[],(wa,ss,wb),.ref wr,rfl,hq1,⟨rfl,fun j v hv=>by simp at hv⟩,by decide,(fun r hr=>by cases hr),⟨wr,wt,rfl,(sF.trans t1) _ _ hw1,(sF.trans t1) _ _ hw2⟩,wsz,fun _ A2 t2=>?_,(fun u x A2 hl' => by cases hl')⟩
    refine ite2 (fun z=>absurd rfl z) (fun _=>?_)
    have u2 := sF.trans (t1.trans t2)
    refine ⟨_,_,.inr (.of (u2 _ _ hw1)),aqi (j := 1) rfl,by decide,fun q3 A3 m3 t3 hq3=>?_⟩
    have u3 := u2.trans t3
    refine ⟨.tuple (ss.map st),.tuple [],.tup (u3 _ _ hw2) (eq6 ss),.tup hq3 .nil,eqE fun l hl=>(hss.2 l hl).2.2,by decide +kernel,?_⟩
    refine ⟨_,_,.inr (.of (u3 _ _ hw1)),aqi (j := 1) rfl,_,_,.inr (.of (u3 _ _ hw1)),aqi (j := 2) rfl,by decide,fun q4 A4 m4 t4 hq4=>?_⟩
    have u4 := u3.trans t4
    refine right ((s48.trans u4) _ _ hlr) (hrs.mono (s48.trans u4).toT) hrl hro hq4 (u4 _ _ hw2) fun A5 t5=>⟨_,rfl,ite2 (fun z=>by cases z) (fun _=>⟨s48.trans (u4.trans t5),_,_,_,rfl,rfl,rfl⟩)⟩
  ·rintro σ H5 ⟨s5,v5,v6,v7,rfl⟩
   walk_at "rd"
   exact k H5
end
theorem aqd {a b : Bool} (h : (a && b) = true) : a = true := by cases a; cases h; rfl
theorem aqg {a b : Bool} (h : (a && b) = true) : b = true := by cases a; cases h; exact h
theorem usl1 {us : List Value} (h : us.length = 1) : ∃ x0,us = [x0] := List.length_eq_one_iff.mp h
local macro_rules | `(tactic| walk_at "b1")=>`(tactic| exact fun _ _ _ _ _ _ us hl=>by obtain ⟨x0,e⟩ := usl1 hl; subst e; rfl)
theorem usl2 {us : List Value} (h : us.length = 2) : ∃ x0 x1,us = [x0,x1] := by
 cases us with
 | nil=>cases h
 | cons x0 l =>
  obtain ⟨x1,rfl⟩ := usl1 (Nat.succ.inj h)
  exact ⟨_,_,rfl⟩
local macro_rules | `(tactic| walk_at "b2")=>`(tactic| exact fun _ _ _ _ _ _ us hl=>by obtain ⟨x0,x1,e⟩ := usl2 hl; subst e; rfl)
theorem usl3 {us : List Value} (h : us.length = 3) : ∃ x0 x1 x2,us = [x0,x1,x2] := by
 cases us with
 | nil=>cases h
 | cons x0 l =>
  obtain ⟨x1,x2,rfl⟩ := usl2 (Nat.succ.inj h)
  exact ⟨_,_,_,rfl⟩
local macro_rules | `(tactic| walk_at "b3")=>`(tactic| exact fun _ _ _ _ _ _ us hl=>by obtain ⟨x0,x1,x2,e⟩ := usl3 hl; subst e; rfl)
theorem sqM {l : PySem.W.OpenLaw} {w : World} {K : W.Frag} {h : Heap} {mg : Str -> Option Value} {fa : Addr} (X : K.In h) (Gl : h.Ns mainGlobals mg) (hfa : mg "law" = some (.ref fa))
  {eC_NoValue : Addr} (en_NoValue : W.nsIn K mainGlobals "NoValue" = some (some (.ref eC_NoValue)))
  (a1 : W.findIn K (.ref eC_NoValue) "__init__" = some (some (.ref f1))) (i1 : W.isFn K (.ref f1) = true) (l1 : K.lookup f1 = some ⟨oc1,od1,.func (W.fnOf "__init__" "NoValue.__init__" (defArgs aqJ) (defBody aqJ) (defScope aqJ) .none kV1 dc1 pm1 an1 cd1 ct1),sl1⟩)
  (a2 : W.nsIn K mainGlobals "made_of" = some (some (.ref f2))) (l2 : K.lookup f2 = some ⟨oc2,od2,.func (W.fnOf "made_of" "made_of" (defArgs dqF) (defBody dqF) (defScope dqF) .none kV2 dc2 pm2 an2 cd2 ct2),sl2⟩)
  (a3 : W.nsIn K mainGlobals "is_whole_number" = some (some (.ref f3))) (l3 : K.lookup f3 = some ⟨oc3,od3,.func (W.fnOf "is_whole_number" "is_whole_number" (defArgs aqO) (defBody aqO) (defScope aqO) .none kV3 dc3 pm3 an3 cd3 ct3),sl3⟩)
  (a4 : W.nsIn K mainGlobals "is_dot" = some (some (.ref f4))) (l4 : K.lookup f4 = some ⟨oc4,od4,.func (W.fnOf "is_dot" "is_dot" (defArgs eqQ) (defBody eqQ) (defScope eqQ) .none kV4 dc4 pm4 an4 cd4 ct4),sl4⟩)
  (a5 : W.nsIn K mainGlobals "is_gap" = some (some (.ref f5))) (l5 : K.lookup f5 = some ⟨oc5,od5,.func (W.fnOf "is_gap" "is_gap" (defArgs eqS) (defBody eqS) (defScope eqS) .none kV5 dc5 pm5 an5 cd5 ct5),sl5⟩)
  (a6 : W.nsIn K mainGlobals "name_of" = some (some (.ref f6))) (l6 : K.lookup f6 = some ⟨oc6,od6,.func (W.fnOf "name_of" "name_of" (defArgs dqH) (defBody dqH) (defScope dqH) .none kV6 dc6 pm6 an6 cd6 ct6),sl6⟩)
  (a7 : W.nsIn K mainGlobals "head_of" = some (some (.ref f7))) (l7 : K.lookup f7 = some ⟨oc7,od7,.func (W.fnOf "head_of" "head_of" (defArgs dqN) (defBody dqN) (defScope dqN) .none kV7 dc7 pm7 an7 cd7 ct7),sl7⟩)
  (a8 : W.nsIn K mainGlobals "tail_of" = some (some (.ref f8))) (l8 : K.lookup f8 = some ⟨oc8,od8,.func (W.fnOf "tail_of" "tail_of" (defArgs dqx) (defBody dqx) (defScope dqx) .none kV8 dc8 pm8 an8 cd8 ct8),sl8⟩)
  (a9 : W.nsIn K mainGlobals "has_rest" = some (some (.ref f9))) (l9 : K.lookup f9 = some ⟨oc9,od9,.func (W.fnOf "has_rest" "has_rest" (defArgs cqL) (defBody cqL) (defScope cqL) .none kV9 dc9 pm9 an9 cd9 ct9),sl9⟩)
  (a10 : W.nsIn K mainGlobals "_law_cell_at" = some (some (.ref f10))) (l10 : K.lookup f10 = some ⟨oc10,od10,.func (W.fnOf "_law_cell_at" "_law_cell_at" (defArgs aq3) (defBody aq3) (defScope aq3) .none kV10 dc10 pm10 an10 cd10 ct10),sl10⟩)
  (a11 : W.nsIn K mainGlobals "_law_names" = some (some (.ref f11))) (l11 : K.lookup f11 = some ⟨oc11,od11,.func (W.fnOf "_law_names" "_law_names" (defArgs bqL) (defBody bqL) (defScope bqL) .none kV11 dc11 pm11 an11 cd11 ct11),sl11⟩)
  (a12 : W.nsIn K mainGlobals "_law_signs" = some (some (.ref f12))) (l12 : K.lookup f12 = some ⟨oc12,od12,.func (W.fnOf "_law_signs" "_law_signs" (defArgs bqF) (defBody bqF) (defScope bqF) .none kV12 dc12 pm12 an12 cd12 ct12),sl12⟩)
  (a13 : W.nsIn K mainGlobals "_law_run" = some (some (.ref f13))) (l13 : K.lookup f13 = some ⟨oc13,od13,.func (W.fnOf "_law_run" "_law_run" (defArgs cqU) (defBody cqU) (defScope cqU) .none kV13 dc13 pm13 an13 cd13 ct13),sl13⟩)
  (a14 : W.nsIn K mainGlobals "_law_fits_step" = some (some (.ref f14))) (l14 : K.lookup f14 = some ⟨oc14,od14,.func (W.fnOf "_law_fits_step" "_law_fits_step" (defArgs aqS) (defBody aqS) (defScope aqS) .none kV14 dc14 pm14 an14 cd14 ct14),sl14⟩)
  (a15 : W.nsIn K mainGlobals "_law_is_way" = some (some (.ref f15))) (l15 : K.lookup f15 = some ⟨oc15,od15,.func (W.fnOf "_law_is_way" "_law_is_way" (defArgs bqi) (defBody bqi) (defScope bqi) .none kV15 dc15 pm15 an15 cd15 ct15),sl15⟩)
  (a16 : W.nsIn K mainGlobals "_law_values" = some (some (.ref f16))) (l16 : K.lookup f16 = some ⟨oc16,od16,.func (W.fnOf "_law_values" "_law_values" (defArgs bqg) (defBody bqg) (defScope bqg) .none kV16 dc16 pm16 an16 cd16 ct16),sl16⟩)
  (a17 : W.nsIn K mainGlobals "is_text" = some (some (.ref f17))) (l17 : K.lookup f17 = some ⟨oc17,od17,.func (W.fnOf "is_text" "is_text" (defArgs dqz) (defBody dqz) (defScope dqz) .none kV17 dc17 pm17 an17 cd17 ct17),sl17⟩)
  (a18 : W.nsIn K mainGlobals "names_of" = some (some (.ref f18))) (l18 : K.lookup f18 = some ⟨oc18,od18,.func (W.fnOf "names_of" "names_of" (defArgs cqN) (defBody cqN) (defScope cqN) .none kV18 dc18 pm18 an18 cd18 ct18),sl18⟩)
  (a19 : W.nsIn K mainGlobals "spread" = some (some (.ref f19))) (l19 : K.lookup f19 = some ⟨oc19,od19,.func (W.fnOf "spread" "spread" (defArgs eqT) (defBody eqT) (defScope eqT) .none kV19 dc19 pm19 an19 cd19 ct19),sl19⟩)
  (a20 : W.nsIn K mainGlobals "fits_part" = some (some (.ref f20))) (l20 : K.lookup f20 = some ⟨oc20,od20,.func (W.fnOf "fits_part" "fits_part" (defArgs cqd) (defBody cqd) (defScope cqd) .none kV20 dc20 pm20 an20 cd20 ct20),sl20⟩)
  (a21 : W.nsIn K mainGlobals "is_number" = some (some (.ref f21))) (l21 : K.lookup f21 = some ⟨oc21,od21,.func (W.fnOf "is_number" "is_number" (defArgs bq7) (defBody bq7) (defScope bq7) .none kV21 dc21 pm21 an21 cd21 ct21),sl21⟩)
  (a22 : W.nsIn K mainGlobals "is_word" = some (some (.ref f22))) (l22 : K.lookup f22 = some ⟨oc22,od22,.func (W.fnOf "is_word" "is_word" (defArgs dqG) (defBody dqG) (defScope dqG) .none kV22 dc22 pm22 an22 cd22 ct22),sl22⟩)
  (a23 : W.nsIn K mainGlobals "bound_value" = some (some (.ref f23))) (l23 : K.lookup f23 = some ⟨oc23,od23,.func (W.fnOf "bound_value" "bound_value" (defArgs bqk) (defBody bqk) (defScope bqk) .none kV23 dc23 pm23 an23 cd23 ct23),sl23⟩)
  (a24 : W.nsIn K mainGlobals "steps_of_value" = some (some (.ref f24))) (l24 : K.lookup f24 = some ⟨oc24,od24,.func (W.fnOf "steps_of_value" "steps_of_value" (defArgs aqU) (defBody aqU) (defScope aqU) .none kV24 dc24 pm24 an24 cd24 ct24),sl24⟩)
  (a25 : W.nsIn K mainGlobals "_law_cells" = some (some (.ref f25))) (l25 : K.lookup f25 = some ⟨oc25,od25,.func (W.fnOf "_law_cells" "_law_cells" (defArgs bqM) (defBody bqM) (defScope bqM) .none kV25 dc25 pm25 an25 cd25 ct25),sl25⟩)
  (a26 : W.nsIn K mainGlobals "_law_text" = some (some (.ref f26))) (l26 : K.lookup f26 = some ⟨oc26,od26,.func (W.fnOf "_law_text" "_law_text" (defArgs bq8) (defBody bq8) (defScope bq8) .none kV26 dc26 pm26 an26 cd26 ct26),sl26⟩)
  (a27 : W.nsIn K mainGlobals "_law_fits" = some (some (.ref f27))) (l27 : K.lookup f27 = some ⟨oc27,od27,.func (W.fnOf "_law_fits" "_law_fits" (defArgs cqa) (defBody cqa) (defScope cqa) .none kV27 dc27 pm27 an27 cd27 ct27),sl27⟩)
  (a28 : W.nsIn K mainGlobals "_law_goal_piece" = some (some (.ref f28))) (l28 : K.lookup f28 = some ⟨oc28,od28,.func (W.fnOf "_law_goal_piece" "_law_goal_piece" (defArgs aqP) (defBody aqP) (defScope aqP) .none kV28 dc28 pm28 an28 cd28 ct28),sl28⟩)
  (a29 : W.nsIn K mainGlobals "is_filled_text" = some (some (.ref f29))) (l29 : K.lookup f29 = some ⟨oc29,od29,.func (W.fnOf "is_filled_text" "is_filled_text" (defArgs aqT) (defBody aqT) (defScope aqT) .none kV29 dc29 pm29 an29 cd29 ct29),sl29⟩)
  (a30 : W.nsIn K mainGlobals "step_fits" = some (some (.ref f30))) (l30 : K.lookup f30 = some ⟨oc30,od30,.func (W.fnOf "step_fits" "step_fits" (defArgs cqb) (defBody cqb) (defScope cqb) .none kV30 dc30 pm30 an30 cd30 ct30),sl30⟩)
  (a31 : W.nsIn K mainGlobals "refuse_others" = some (some (.ref f31))) (l31 : K.lookup f31 = some ⟨oc31,od31,.func (W.fnOf "refuse_others" "refuse_others" (defArgs aqV) (defBody aqV) (defScope aqV) .none kV31 dc31 pm31 an31 cd31 ct31),sl31⟩)
  (a32 : W.nsIn K mainGlobals "_law_piece" = some (some (.ref f32))) (l32 : K.lookup f32 = some ⟨oc32,od32,.func (W.fnOf "_law_piece" "_law_piece" (defArgs bqI) (defBody bqI) (defScope bqI) .none kV32 dc32 pm32 an32 cd32 ct32),sl32⟩)
  (a33 : W.nsIn K mainGlobals "_law_step" = some (some (.ref f33))) (l33 : K.lookup f33 = some ⟨oc33,od33,.func (W.fnOf "_law_step" "_law_step" (defArgs cqg) (defBody cqg) (defScope cqg) .none kV33 dc33 pm33 an33 cd33 ct33),sl33⟩)
  (a34 : W.nsIn K mainGlobals "_law_goes" = some (some (.ref f34))) (l34 : K.lookup f34 = some ⟨oc34,od34,.func (W.fnOf "_law_goes" "_law_goes" (defArgs bq9) (defBody bq9) (defScope bq9) .none kV34 dc34 pm34 an34 cd34 ct34),sl34⟩)
  (a35 : W.nsIn K mainGlobals "_law_goal" = some (some (.ref f35))) (l35 : K.lookup f35 = some ⟨oc35,od35,.func (W.fnOf "_law_goal" "_law_goal" (defArgs cqc) (defBody cqc) (defScope cqc) .none kV35 dc35 pm35 an35 cd35 ct35),sl35⟩)
  (a36 : W.nsIn K mainGlobals "fits" = some (some (.ref f36))) (l36 : K.lookup f36 = some ⟨oc36,od36,.func (W.fnOf "fits" "fits" (defArgs jqm) (defBody jqm) (defScope jqm) .none kV36 dc36 pm36 an36 cd36 ct36),sl36⟩)
  (a37 : W.nsIn K mainGlobals "can_be_step" = some (some (.ref f37))) (l37 : K.lookup f37 = some ⟨oc37,od37,.func (W.fnOf "can_be_step" "can_be_step" (defArgs bqm) (defBody bqm) (defScope bqm) .none kV37 dc37 pm37 an37 cd37 ct37),sl37⟩)
  (a38 : W.nsIn K mainGlobals "_law_pattern" = some (some (.ref f38))) (l38 : K.lookup f38 = some ⟨oc38,od38,.func (W.fnOf "_law_pattern" "_law_pattern" (defArgs aq5) (defBody aq5) (defScope aq5) .none kV38 dc38 pm38 an38 cd38 ct38),sl38⟩)
  (a39 : W.nsIn K mainGlobals "_law_way" = some (some (.ref f39))) (l39 : K.lookup f39 = some ⟨oc39,od39,.func (W.fnOf "_law_way" "_law_way" (defArgs cqR) (defBody cqR) (defScope cqR) .none kV39 dc39 pm39 an39 cd39 ct39),sl39⟩)
  (a40 : W.nsIn K mainGlobals "_law_due" = some (some (.ref f40))) (l40 : K.lookup f40 = some ⟨oc40,od40,.func (W.fnOf "_law_due" "_law_due" (defArgs cqT) (defBody cqT) (defScope cqT) .none kV40 dc40 pm40 an40 cd40 ct40),sl40⟩)
  (a41 : W.nsIn K mainGlobals "bound" = some (some (.ref f41))) (l41 : K.lookup f41 = some ⟨oc41,od41,.func (W.fnOf "bound" "bound" (defArgs gqw) (defBody gqw) (defScope gqw) .none kV41 dc41 pm41 an41 cd41 ct41),sl41⟩)
  (a42 : W.nsIn K mainGlobals "is_value" = some (some (.ref f42))) (l42 : K.lookup f42 = some ⟨oc42,od42,.func (W.fnOf "is_value" "is_value" (defArgs cqS) (defBody cqS) (defScope cqS) .none kV42 dc42 pm42 an42 cd42 ct42),sl42⟩)
  (a43 : W.nsIn K mainGlobals "_law_rule" = some (some (.ref f43))) (l43 : K.lookup f43 = some ⟨oc43,od43,.func (W.fnOf "_law_rule" "_law_rule" (defArgs bq4) (defBody bq4) (defScope bq4) .none kV43 dc43 pm43 an43 cd43 ct43),sl43⟩)
  (a44 : W.nsIn K mainGlobals "filled_steps" = some (some (.ref f44))) (l44 : K.lookup f44 = some ⟨oc44,od44,.func (W.fnOf "filled_steps" "filled_steps" (defArgs aq6) (defBody aq6) (defScope aq6) .none kV44 dc44 pm44 an44 cd44 ct44),sl44⟩)
  (a45 : W.nsIn K mainGlobals "filled" = some (some (.ref f45))) (l45 : K.lookup f45 = some ⟨oc45,od45,.func (W.fnOf "filled" "filled" (defArgs fqd) (defBody fqd) (defScope fqd) .none kV45 dc45 pm45 an45 cd45 ct45),sl45⟩)
  (a46 : W.nsIn K mainGlobals "led_by_rule" = some (some (.ref f46))) (l46 : K.lookup f46 = some ⟨oc46,od46,.func (W.fnOf "led_by_rule" "led_by_rule" (defArgs bqn) (defBody bqn) (defScope bqn) .none kV46 dc46 pm46 an46 cd46 ct46),sl46⟩)
  (a47 : W.nsIn K mainGlobals "led_on" = some (some (.ref f47))) (l47 : K.lookup f47 = some ⟨oc47,od47,.func (W.fnOf "led_on" "led_on" (defArgs eqY) (defBody eqY) (defScope eqY) .none kV47 dc47 pm47 an47 cd47 ct47),sl47⟩)
  (a48 : W.nsIn K mainGlobals "_law_right" = some (some (.ref f48))) (l48 : K.lookup f48 = some ⟨oc48,od48,.func (W.fnOf "_law_right" "_law_right" (defArgs bqH) (defBody bqH) (defScope bqH) .none kV48 dc48 pm48 an48 cd48 ct48),sl48⟩)
  (a49 : W.nsIn K mainGlobals "law" = some (some (.ref f49))) (l49 : K.lookup f49 = some ⟨oc49,od49,.func (W.fnOf "law" "law" (defArgs nqe) (defBody nqe) (defScope nqe) .none kV49 dc49 pm49 an49 cd49 ct49),sl49⟩)
  {iqb : Tok} (e_SIGNS : W.nsIn K mainGlobals "SIGNS" = some (some (.str (Str.ofString " !\"#$&'()*+,-./0123456789:;<=>?@ABCDEFGHIJKLMNOPQRSTUVWXYZ[\\]^_`abcdefghijklmnopqrstuvwxyz{|}~") iqb)))
  {bqd : Tok} (e_SMALL_LETTERS : W.nsIn K mainGlobals "SMALL_LETTERS" = some (some (.str (Str.ofString "abcdefghijklmnopqrstuvwxyz") bqd)))
  {eqq : Tok} (e_FIGURES : W.nsIn K mainGlobals "FIGURES" = some (some (.str (Str.ofString "0123456789") eqq)))
  {fqS : Tok} (e_ROOTED : W.nsIn K mainGlobals "ROOTED" = some (some (.int 0 fqS)))
  {iqt : Tok} (e_STEPS : W.nsIn K mainGlobals "STEPS" = some (some (.int 1 iqt)))
  {kqn : Tok} (e_ENDS : W.nsIn K mainGlobals "ENDS" = some (some (.int 2 kqn)))
  {kql : Tok} (e_STAY : W.nsIn K mainGlobals "STAY" = some (some (.str (Str.ofString ".") kql)))
  {t_UP : Tok} (e_UP : W.nsIn K mainGlobals "UP" = some (some (.str (Str.ofString "..") t_UP)))
  {gqd : Tok} (e_PIECES : W.nsIn K mainGlobals "PIECES" = some (some (.int 0 gqd)))
  {gqa : Tok} (e_CLOSES : W.nsIn K mainGlobals "CLOSES" = some (some (.int 1 gqa)))
  {aq1 : Tok} (e_LONGEST_NUMBER : W.nsIn K mainGlobals "LONGEST_NUMBER" = some (some (.int 60 aq1)))
  {bqt : Tok} (e_LONGEST_WORD : W.nsIn K mainGlobals "LONGEST_WORD" = some (some (.int 60 bqt)))
  (z_all : W.nsIn K mainGlobals "all" = some none)
  (z_isinstance : W.nsIn K mainGlobals "isinstance" = some none)
  (z_bool : W.nsIn K mainGlobals "bool" = some none)
  (z_int : W.nsIn K mainGlobals "int" = some none)
  (z_len : W.nsIn K mainGlobals "len" = some none)
  (z_range : W.nsIn K mainGlobals "range" = some none)
  (z_str : W.nsIn K mainGlobals "str" = some none)
  (z_tuple : W.nsIn K mainGlobals "tuple" = some none)
  (z_enumerate : W.nsIn K mainGlobals "enumerate" = some none)
  (z_list : W.nsIn K mainGlobals "list" = some none)
  (z_zip : W.nsIn K mainGlobals "zip" = some none)
  (ew1_NoValue : W.typeIn K (.ref eC_NoValue) = some (.type "type"))
  (ew2_NoValue : W.subIn K (.ref eC_NoValue) (.type "BaseException") = some true)
  (ew3_NoValue : (W.clsIn K eC_NoValue).isSome = true)
  (el0_NoValue : W.findIn K (.ref eC_NoValue) "__getattribute__" = some (some (.builtin "BaseException.__getattribute__")))
  (el1_NoValue : W.findIn K (.ref eC_NoValue) "__class__" = some (some (.builtin "object.__class__")))
  (el2_NoValue : W.findIn K (.ref eC_NoValue) "__getattr__" = some none)
  (el3_NoValue : W.mroIn K eC_NoValue (.type "object") = some true)
  (el4_NoValue : W.mroIn K eC_NoValue (.type "BaseException") = some true)
  (el5_NoValue : (W.clsIn K eC_NoValue).isSome = true)
  (ey_NoValue : excInI K eC_NoValue vErr vNew f1 = true)
  (ek_NoValue : W.keepIn K (.ref eC_NoValue) = true)
  (es_NoValue : W.findIn K (.ref eC_NoValue) "__setattr__" = some (some (.builtin "object.__setattr__")))
  (eo_NoValue : overErr K eC_NoValue = true)
  (eh_NoValue : W.hasDictIn K eC_NoValue = true)
  (ef_NoValue_name : W.findIn K (.ref eC_NoValue) "name" = some none)
  (eu_NoValue_NoValue : W.subIn K (.ref eC_NoValue) (.ref eC_NoValue) = some true)
  (kk : ((((((W.keepIn K (.ref f1) && W.keepIn K (.ref f2)) && (W.keepIn K (.ref f3) && W.keepIn K (.ref f4))) && ((W.keepIn K (.ref f5) && W.keepIn K (.ref f6)) && W.keepIn K (.ref f7))) && (((W.keepIn K (.ref f8) && W.keepIn K (.ref f9)) && W.keepIn K (.ref f10)) && ((W.keepIn K (.ref f11) && W.keepIn K (.ref f12)) && W.keepIn K (.ref f13)))) && ((((W.keepIn K (.ref f14) && W.keepIn K (.ref f15)) && W.keepIn K (.ref f16)) && ((W.keepIn K (.ref f17) && W.keepIn K (.ref f18)) && W.keepIn K (.ref f19))) && (((W.keepIn K (.ref f20) && W.keepIn K (.ref f21)) && W.keepIn K (.ref f22)) && ((W.keepIn K (.ref f23) && W.keepIn K (.ref f24)) && W.keepIn K (.ref f25))))) && (((((W.keepIn K (.ref f26) && W.keepIn K (.ref f27)) && W.keepIn K (.ref f28)) && ((W.keepIn K (.ref f29) && W.keepIn K (.ref f30)) && W.keepIn K (.ref f31))) && (((W.keepIn K (.ref f32) && W.keepIn K (.ref f33)) && W.keepIn K (.ref f34)) && ((W.keepIn K (.ref f35) && W.keepIn K (.ref f36)) && W.keepIn K (.ref f37)))) && ((((W.keepIn K (.ref f38) && W.keepIn K (.ref f39)) && W.keepIn K (.ref f40)) && ((W.keepIn K (.ref f41) && W.keepIn K (.ref f42)) && W.keepIn K (.ref f43))) && (((W.keepIn K (.ref f44) && W.keepIn K (.ref f45)) && W.keepIn K (.ref f46)) && ((W.keepIn K (.ref f47) && W.keepIn K (.ref f48)) && W.keepIn K (.ref f49)))))) = true)
  (cc : ((((((W.codeIn K cd1 "NoValue.__init__" && W.codeIn K cd2 "made_of") && (W.codeIn K cd3 "is_whole_number" && W.codeIn K cd4 "is_dot")) && ((W.codeIn K cd5 "is_gap" && W.codeIn K cd6 "name_of") && W.codeIn K cd7 "head_of")) && (((W.codeIn K cd8 "tail_of" && W.codeIn K cd9 "has_rest") && W.codeIn K cd10 "_law_cell_at") && ((W.codeIn K cd11 "_law_names" && W.codeIn K cd12 "_law_signs") && W.codeIn K cd13 "_law_run"))) && ((((W.codeIn K cd14 "_law_fits_step" && W.codeIn K cd15 "_law_is_way") && W.codeIn K cd16 "_law_values") && ((W.codeIn K cd17 "is_text" && W.codeIn K cd18 "names_of") && W.codeIn K cd19 "spread")) && (((W.codeIn K cd20 "fits_part" && W.codeIn K cd21 "is_number") && W.codeIn K cd22 "is_word") && ((W.codeIn K cd23 "bound_value" && W.codeIn K cd24 "steps_of_value") && W.codeIn K cd25 "_law_cells")))) && (((((W.codeIn K cd26 "_law_text" && W.codeIn K cd27 "_law_fits") && W.codeIn K cd28 "_law_goal_piece") && ((W.codeIn K cd29 "is_filled_text" && W.codeIn K cd30 "step_fits") && W.codeIn K cd31 "refuse_others")) && (((W.codeIn K cd32 "_law_piece" && W.codeIn K cd33 "_law_step") && W.codeIn K cd34 "_law_goes") && ((W.codeIn K cd35 "_law_goal" && W.codeIn K cd36 "fits") && W.codeIn K cd37 "can_be_step"))) && ((((W.codeIn K cd38 "_law_pattern" && W.codeIn K cd39 "_law_way") && W.codeIn K cd40 "_law_due") && ((W.codeIn K cd41 "bound" && W.codeIn K cd42 "is_value") && W.codeIn K cd43 "_law_rule")) && (((W.codeIn K cd44 "filled_steps" && W.codeIn K cd45 "filled") && W.codeIn K cd46 "led_by_rule") && ((W.codeIn K cd47 "led_on" && W.codeIn K cd48 "_law_right") && W.codeIn K cd49 "law"))))) = true) :
  ∃ fd : FuncData,(∀ (s : Shared) (v : Value),BindsTo s fd ⟨[v],[]⟩ [("_law_script", v)]) /\ ∀ base : Heap,K.In base -> base.Ns mainGlobals mg -> FnOk l.prog w K mg base CX0 11 fa fd ["_law_script"] (mqn K) := by
 have e := hfa.symm.trans (W.mg_of X Gl a49)
 have e2 : f49 = fa := by cases e; rfl
 subst e2
 have M : ∀ {x : Str} {v : Value},W.nsIn K mainGlobals x = some (some v) -> mg x = some v := fun a=>W.mg_of X Gl a
 have F1 := aqy (st := aqJ) l1 (aqd (aqd (aqd (aqd (aqd (aqd cc)))))) (aqd (aqd (aqd (aqd (aqd (aqd kk))))))
 have F2 := aqy (st := dqF) l2 (aqg (aqd (aqd (aqd (aqd (aqd cc)))))) (aqg (aqd (aqd (aqd (aqd (aqd kk))))))
 have F3 := aqy (st := aqO) l3 (aqd (aqg (aqd (aqd (aqd (aqd cc)))))) (aqd (aqg (aqd (aqd (aqd (aqd kk))))))
 have F4 := aqy (st := eqQ) l4 (aqg (aqg (aqd (aqd (aqd (aqd cc)))))) (aqg (aqg (aqd (aqd (aqd (aqd kk))))))
 have F5 := aqy (st := eqS) l5 (aqd (aqd (aqg (aqd (aqd (aqd cc)))))) (aqd (aqd (aqg (aqd (aqd (aqd kk))))))
 have F6 := aqy (st := dqH) l6 (aqg (aqd (aqg (aqd (aqd (aqd cc)))))) (aqg (aqd (aqg (aqd (aqd (aqd kk))))))
 have F7 := aqy (st := dqN) l7 (aqg (aqg (aqd (aqd (aqd cc))))) (aqg (aqg (aqd (aqd (aqd kk)))))
 have F8 := aqy (st := dqx) l8 (aqd (aqd (aqd (aqg (aqd (aqd cc)))))) (aqd (aqd (aqd (aqg (aqd (aqd kk))))))
 have F9 := aqy (st := cqL) l9 (aqg (aqd (aqd (aqg (aqd (aqd cc)))))) (aqg (aqd (aqd (aqg (aqd (aqd kk))))))
 have F10 := aqy (st := aq3) l10 (aqg (aqd (aqg (aqd (aqd cc))))) (aqg (aqd (aqg (aqd (aqd kk)))))
 have F11 := aqy (st := bqL) l11 (aqd (aqd (aqg (aqg (aqd (aqd cc)))))) (aqd (aqd (aqg (aqg (aqd (aqd kk))))))
 have F12 := aqy (st := bqF) l12 (aqg (aqd (aqg (aqg (aqd (aqd cc)))))) (aqg (aqd (aqg (aqg (aqd (aqd kk))))))
 have F13 := aqy (st := cqU) l13 (aqg (aqg (aqg (aqd (aqd cc))))) (aqg (aqg (aqg (aqd (aqd kk)))))
 have F14 := aqy (st := aqS) l14 (aqd (aqd (aqd (aqd (aqg (aqd cc)))))) (aqd (aqd (aqd (aqd (aqg (aqd kk))))))
 have F15 := aqy (st := bqi) l15 (aqg (aqd (aqd (aqd (aqg (aqd cc)))))) (aqg (aqd (aqd (aqd (aqg (aqd kk))))))
 have F16 := aqy (st := bqg) l16 (aqg (aqd (aqd (aqg (aqd cc))))) (aqg (aqd (aqd (aqg (aqd kk)))))
 have F17 := aqy (st := dqz) l17 (aqd (aqd (aqg (aqd (aqg (aqd cc)))))) (aqd (aqd (aqg (aqd (aqg (aqd kk))))))
 have F18 := aqy (st := cqN) l18 (aqg (aqd (aqg (aqd (aqg (aqd cc)))))) (aqg (aqd (aqg (aqd (aqg (aqd kk))))))
 have F19 := aqy (st := eqT) l19 (aqg (aqg (aqd (aqg (aqd cc))))) (aqg (aqg (aqd (aqg (aqd kk)))))
 have F20 := aqy (st := cqd) l20 (aqd (aqd (aqd (aqg (aqg (aqd cc)))))) (aqd (aqd (aqd (aqg (aqg (aqd kk))))))
 have F21 := aqy (st := bq7) l21 (aqg (aqd (aqd (aqg (aqg (aqd cc)))))) (aqg (aqd (aqd (aqg (aqg (aqd kk))))))
 have F22 := aqy (st := dqG) l22 (aqg (aqd (aqg (aqg (aqd cc))))) (aqg (aqd (aqg (aqg (aqd kk)))))
 have F23 := aqy (st := bqk) l23 (aqd (aqd (aqg (aqg (aqg (aqd cc)))))) (aqd (aqd (aqg (aqg (aqg (aqd kk))))))
 have F24 := aqy (st := aqU) l24 (aqg (aqd (aqg (aqg (aqg (aqd cc)))))) (aqg (aqd (aqg (aqg (aqg (aqd kk))))))
 have F25 := aqy (st := bqM) l25 (aqg (aqg (aqg (aqg (aqd cc))))) (aqg (aqg (aqg (aqg (aqd kk)))))
 have F26 := aqy (st := bq8) l26 (aqd (aqd (aqd (aqd (aqd (aqg cc)))))) (aqd (aqd (aqd (aqd (aqd (aqg kk))))))
 have F27 := aqy (st := cqa) l27 (aqg (aqd (aqd (aqd (aqd (aqg cc)))))) (aqg (aqd (aqd (aqd (aqd (aqg kk))))))
 have F28 := aqy (st := aqP) l28 (aqg (aqd (aqd (aqd (aqg cc))))) (aqg (aqd (aqd (aqd (aqg kk)))))
 have F29 := aqy (st := aqT) l29 (aqd (aqd (aqg (aqd (aqd (aqg cc)))))) (aqd (aqd (aqg (aqd (aqd (aqg kk))))))
 have F30 := aqy (st := cqb) l30 (aqg (aqd (aqg (aqd (aqd (aqg cc)))))) (aqg (aqd (aqg (aqd (aqd (aqg kk))))))
 have F31 := aqy (st := aqV) l31 (aqg (aqg (aqd (aqd (aqg cc))))) (aqg (aqg (aqd (aqd (aqg kk)))))
 have F32 := aqy (st := bqI) l32 (aqd (aqd (aqd (aqg (aqd (aqg cc)))))) (aqd (aqd (aqd (aqg (aqd (aqg kk))))))
 have F33 := aqy (st := cqg) l33 (aqg (aqd (aqd (aqg (aqd (aqg cc)))))) (aqg (aqd (aqd (aqg (aqd (aqg kk))))))
 have F34 := aqy (st := bq9) l34 (aqg (aqd (aqg (aqd (aqg cc))))) (aqg (aqd (aqg (aqd (aqg kk)))))
 have F35 := aqy (st := cqc) l35 (aqd (aqd (aqg (aqg (aqd (aqg cc)))))) (aqd (aqd (aqg (aqg (aqd (aqg kk))))))
 have F36 := aqy (st := jqm) l36 (aqg (aqd (aqg (aqg (aqd (aqg cc)))))) (aqg (aqd (aqg (aqg (aqd (aqg kk))))))
 have F37 := aqy (st := bqm) l37 (aqg (aqg (aqg (aqd (aqg cc))))) (aqg (aqg (aqg (aqd (aqg kk)))))
 have F38 := aqy (st := aq5) l38 (aqd (aqd (aqd (aqd (aqg (aqg cc)))))) (aqd (aqd (aqd (aqd (aqg (aqg kk))))))
 have F39 := aqy (st := cqR) l39 (aqg (aqd (aqd (aqd (aqg (aqg cc)))))) (aqg (aqd (aqd (aqd (aqg (aqg kk))))))
 have F40 := aqy (st := cqT) l40 (aqg (aqd (aqd (aqg (aqg cc))))) (aqg (aqd (aqd (aqg (aqg kk)))))
 have F41 := aqy (st := gqw) l41 (aqd (aqd (aqg (aqd (aqg (aqg cc)))))) (aqd (aqd (aqg (aqd (aqg (aqg kk))))))
 have F42 := aqy (st := cqS) l42 (aqg (aqd (aqg (aqd (aqg (aqg cc)))))) (aqg (aqd (aqg (aqd (aqg (aqg kk))))))
 have F43 := aqy (st := bq4) l43 (aqg (aqg (aqd (aqg (aqg cc))))) (aqg (aqg (aqd (aqg (aqg kk)))))
 have F44 := aqy (st := aq6) l44 (aqd (aqd (aqd (aqg (aqg (aqg cc)))))) (aqd (aqd (aqd (aqg (aqg (aqg kk))))))
 have F45 := aqy (st := fqd) l45 (aqg (aqd (aqd (aqg (aqg (aqg cc)))))) (aqg (aqd (aqd (aqg (aqg (aqg kk))))))
 have F46 := aqy (st := bqn) l46 (aqg (aqd (aqg (aqg (aqg cc))))) (aqg (aqd (aqg (aqg (aqg kk)))))
 have F47 := aqy (st := eqY) l47 (aqd (aqd (aqg (aqg (aqg (aqg cc)))))) (aqd (aqd (aqg (aqg (aqg (aqg kk))))))
 have F48 := aqy (st := bqH) l48 (aqg (aqd (aqg (aqg (aqg (aqg cc)))))) (aqg (aqd (aqg (aqg (aqg (aqg kk))))))
 have F49 := aqy (st := nqe) l49 (aqg (aqg (aqg (aqg (aqg cc))))) (aqg (aqg (aqg (aqg (aqg kk)))))
 let g : G K mg := {
  bqa := f1,aqY := _,dqe := F1,
  bqU := F1.binds (by walk_at "b2"),
  fqT := f2,eqR := _,eqI := F2,gqh := M a2,
  gqr := F2.binds (by walk_at "b2"),
  bqo := f3,aq9 := _,bq5 := F3,dqI := M a3,
  dqM := F3.binds (by walk_at "b1"),
  hqj := f4,fq4 := _,gqe := F4,hqt := M a4,
  hqm := F4.binds (by walk_at "b1"),
  hql := f5,fqY := _,fq1 := F5,hqs := M a5,
  hqi := F5.binds (by walk_at "b1"),
  fqU := f6,eq1 := _,dqL := F6,eqH := M a6,
  eqz := F6.binds (by walk_at "b1"),
  fqP := f7,eqX := _,dqB := F7,eqo := M a7,
  eqD := F7.binds (by walk_at "b1"),
  fqG := f8,eqP := _,dqD := F8,eqG := M a8,
  eqK := F8.binds (by walk_at "b1"),
  eq3 := f9,dq1 := _,gqJ := F9,jqg := M a9,
  iqZ := F9.binds (by walk_at "b1"),
  cqo := f10,bqP := _,aq4 := F10,bqu := M a10,
  bqv := F10.binds (by walk_at "b2"),
  dqk := f11,cqF := _,eqM := F11,gqZ := M a11,
  gq6 := F11.binds (by walk_at "b2"),
  dqp := f12,cqH := _,eqt := F12,gqY := M a12,
  gq3 := F12.binds (by walk_at "b1"),
  eq8 := f13,eqb := _,bq2 := F13,cqM := M a13,
  cqO := F13.binds (by walk_at "b3"),
  bqC := f14,bqh := _,cqt := F14,eqm := M a14,
  eqk := F14.binds (by walk_at "b2"),
  cqB := f15,cqp := _,dq7 := F15,fq5 := M a15,
  fqL := F15.binds (by walk_at "b1"),
  cqI := f16,cql := _,dq4 := F16,gqo := M a16,
  gqi := F16.binds (by walk_at "b2"),
  fqM := f17,eq0 := _,iqk := F17,jq7 := M a17,
  lqb := F17.binds (by walk_at "b1"),
  eq2 := f18,dqX := _,fqc := F18,gqF := M a18,
  gqU := F18.binds (by walk_at "b1"),
  hqn := f19,fqZ := _,jqu := F19,lq8 := M a19,
  mqx := F19.binds (by walk_at "b2"),
  dqT := f20,dqc := _,fqx := F20,hqU := M a20,
  hqz := F20.binds (by walk_at "b2"),
  eqd := f21,dqb := _,fqC := F21,iqv := M a21,
  hqK := F21.binds (by walk_at "b1"),
  fqN := f22,fqf := _,gqp := F22,hqP := M a22,
  hqI := F22.binds (by walk_at "b1"),
  cqK := f23,cqm := _,dq6 := F23,fq6 := M a23,
  fq2 := F23.binds (by walk_at "b2"),
  bqx := f24,bqf := _,cqw := F24,eqj := M a24,
  eql := F24.binds (by walk_at "b2"),
  dql := f25,cqA := _,dqh := F25,eqJ := M a25,
  eqr := F25.binds (by walk_at "b3"),
  dqY := f26,dqo := _,bq6 := F26,cq1 := M a26,
  cq8 := F26.binds (by walk_at "b3"),
  eqc := f27,dqi := _,fqD := F27,iqs := M a27,
  iqu := F27.binds (by walk_at "b2"),
  bqj := f28,bqb := _,bq1 := F28,dqA := M a28,
  dqK := F28.binds (by walk_at "b3"),
  bqB := f29,bqp := _,bqy := F29,cqu := M a29,
  cqv := F29.binds (by walk_at "b1"),
  dq9 := f30,dqg := _,fqy := F30,iqq := M a30,
  iqp := F30.binds (by walk_at "b2"),
  bqY := f31,bqA := _,cqZ := F31,eqs := M a31,
  eqp := F31.binds (by walk_at "b2"),
  dqr := f32,cqD := _,eqw := F32,gq0 := M a32,
  gq1 := F32.binds (by walk_at "b3"),
  dqR := f33,cq9 := _,fqt := F33,hq7 := M a33,
  iqw := F33.binds (by walk_at "b3"),
  dqO := f34,dqm := _,fqv := F34,iqm := M a34,
  hqJ := F34.binds (by walk_at "b2"),
  dq2 := f35,dqn := _,fqm := F35,iqc := M a35,
  hqZ := F35.binds (by walk_at "b3"),
  mqp := f36,jqQ := _,oqr := F36,qqa := M a36,
  qqe := F36.binds (by walk_at "b2"),
  cqG := f37,cqn := _,eqg := F37,fqV := M a37,
  gql := F37.binds (by walk_at "b1"),
  cqj := f38,bqS := _,dqw := F38,fqh := M a38,
  fqk := F38.binds (by walk_at "b3"),
  eqW := f39,dq8 := _,gqK := F39,iqV := M a39,
  iq2 := F39.binds (by walk_at "b3"),
  eq5 := f40,dq3 := _,gqI := F40,jqi := M a40,
  iq4 := F40.binds (by walk_at "b2"),
  jqS := f41,hqu := _,lqx := F41,oqf := M a41,
  nqO := F41.binds (by walk_at "b2"),
  fqa := f42,dqZ := _,gqB := F42,jqh := M a42,
  jqo := F42.binds (by walk_at "b2"),
  eqe := f43,dqd := _,fqz := F43,iqe := M a43,
  iqf := F43.binds (by walk_at "b3"),
  cqi := f44,bqT := _,dqv := F44,fql := M a44,
  fqg := F44.binds (by walk_at "b2"),
  hqo := f45,fqK := _,jqL := F45,mqr := M a45,
  mql := F45.binds (by walk_at "b2"),
  cqE := f46,cqk := _,dqV := F46,fqJ := M a46,
  fq0 := F46.binds (by walk_at "b3"),
  hqp := f47,fqX := _,hqx := F47,jqJ := M a47,
  jqP := F47.binds (by walk_at "b2"),
  dqf := f48,cqC := _,bqe := F48,bqE := M a48,
  bqK := F48.binds (by walk_at "b2"),
  oqT := f49,kqR := _,sqq := F49,tqA := M a49,
  tqx := F49.binds (by walk_at "b1"),
  iqb := iqb,oqm := W.mg_of X Gl e_SIGNS,
  bqd := bqd,eqO := W.mg_of X Gl e_SMALL_LETTERS,
  eqq := eqq,kqL := W.mg_of X Gl e_FIGURES,
  fqS := fqS,mqc := W.mg_of X Gl e_ROOTED,
  iqt := iqt,lqv := W.mg_of X Gl e_STEPS,
  kqn := kqn,pq7 := W.mg_of X Gl e_ENDS,
  kql := kql,pq5 := W.mg_of X Gl e_STAY,
  t_UP := t_UP,c_UP := W.mg_of X Gl e_UP,
  gqd := gqd,dqU := W.mg_of X Gl e_PIECES,
  gqa := gqa,jqN := W.mg_of X Gl e_CLOSES,
  aq1 := aq1,eqh := W.mg_of X Gl e_LONGEST_NUMBER,
  bqt := bqt,fqj := W.mg_of X Gl e_LONGEST_WORD,
  pqw := W.mg_none_of X Gl z_all,
  aqH := W.mg_none_of X Gl z_isinstance,
  mqs := W.mg_none_of X Gl z_bool,
  mqP := W.mg_none_of X Gl z_int,
  bqq := W.mg_none_of X Gl z_len,
  cq2 := W.mg_none_of X Gl z_range,
  nqb := W.mg_none_of X Gl z_str,
  eqB := W.mg_none_of X Gl z_tuple,
  cqX := W.mg_none_of X Gl z_enumerate,
  gqX := W.mg_none_of X Gl z_list,
  sqb := W.mg_none_of X Gl z_zip,
  aqE := eC_NoValue,gqg := W.mg_of X Gl en_NoValue,
  jqZ := ⟨ew1_NoValue,ew2_NoValue,ew3_NoValue⟩,
  nqV := ⟨el0_NoValue,el1_NoValue,el2_NoValue,el3_NoValue,el4_NoValue,el5_NoValue⟩,
  hqF := ⟨ey_NoValue,i1,ek_NoValue⟩,
  eqA := ⟨es_NoValue,eo_NoValue,ef_NoValue_name,eh_NoValue⟩,
  hqW := ⟨⟨el0_NoValue,el1_NoValue,el2_NoValue,el3_NoValue,el4_NoValue,el5_NoValue⟩,ef_NoValue_name,eh_NoValue⟩,
  dqC := eu_NoValue_NoValue }
 exact ⟨g.kqR,fun s v=>.of_eq rfl,fun base _ _=>sqd g⟩
theorem walk {l : PySem.W.OpenLaw} {q : Program} {loose : List Str} {XP : (Str -> Option Value) -> Heap -> Prop} {YP : World -> Heap -> Prop} {d : DefRec} {K : Params -> W.Frag} (hn : l.most = some 63) (hdf : d.params.defaults = [])
  (hY : ∀ (w : World) (h : Heap),YP w h -> (K w.params).In h)
  (F : ∀ (w : World) (mg : Str -> Option Value) (fa : Addr) (h : Heap),(K w.params).In h -> h.Ns mainGlobals mg -> mg d.name = some (.ref fa) ->
   ∃ fd : FuncData,(∀ (s : Shared) (u : Value),BindsTo s fd ⟨[u],[]⟩ [("_law_script", u)]) /\ ∀ base : Heap,(K w.params).In base -> base.Ns mainGlobals mg -> FnOk l.prog w (K w.params) mg base CX0 11 fa fd ["_law_script"] (mqn (K w.params))) :
  PySem.W.WalkO q loose XP YP l.row.toRowW d [] (fun f vs=>PySem.call f vs) :=
 L2.qqQ (n := 63) (k := 11) (x := "_law_script") (CX := fun _=>CX0) (sp := fun w=>mqn (K w.params)) hn (by decide) hdf ⟨rfl,by decide,by decide⟩ hY F (fun _ _ a ns hl _ hS=>⟨a,ns,rfl,hS,hl,fun _=>rfl⟩) fun _ _ _ _ _ z=>z
end Wm
theorem PySem.W.Fast.tw16644065176866284242 : True := trivial
theorem PySem.W.Fast.tw16279494821140205605 : True := trivial
theorem PySem.W.Fast.tw6166528144460871958 : True := trivial
theorem PySem.W.Fast.tw3156107770195348633 : True := trivial
theorem PySem.W.Fast.tw2256217633745099628 : True := trivial
theorem PySem.W.Fast.tw3766378678203043955 : True := trivial
theorem PySem.W.Fast.tw11880497579513307095 : True := trivial
theorem PySem.W.Fast.tw773463426809676941 : True := trivial
theorem PySem.W.Fast.tw2854764060676035010 : True := trivial
theorem PySem.W.Fast.tw14395653108324350690 : True := trivial
theorem PySem.W.Fast.tw11353991849004507718 : True := trivial
theorem PySem.W.Fast.tw16251267630299506942 : True := trivial
theorem PySem.W.Fast.tw8888396402684777279 : True := trivial
theorem PySem.W.Fast.tw18046296155510462126 : True := trivial
theorem PySem.W.Fast.tw1272332275001270033 : True := trivial
theorem PySem.W.Fast.tw9833158383300977225 : True := trivial
theorem PySem.W.Fast.tw17665093006496311171 : True := trivial
theorem PySem.W.Fast.tw16499136050529078233 : True := trivial
theorem PySem.W.Fast.tw14199688301887785926 : True := trivial
theorem PySem.W.Fast.tw2006293279048730087 : True := trivial
theorem PySem.W.Fast.tw6691555691869192314 : True := trivial
theorem PySem.W.Fast.tw1749430085247202753 : True := trivial
theorem PySem.W.Fast.tw1879856786439136360 : True := trivial
theorem PySem.W.Fast.tw4568706434606549822 : True := trivial
theorem PySem.W.Fast.tw7328254445366767159 : True := trivial
theorem PySem.W.Fast.tw8408385169669485955 : True := trivial
theorem PySem.W.Fast.tw12837503051424465568 : True := trivial
theorem PySem.W.Fast.tw4211394170767404730 : True := trivial
theorem PySem.W.Fast.tw13733428401339560669 : True := trivial
theorem PySem.W.Fast.tw13084604792105583973 : True := trivial
theorem PySem.W.Fast.tw5321409882305630387 : True := trivial
theorem PySem.W.Fast.tw10291688643865254454 : True := trivial
theorem PySem.W.Fast.tw8881333611774298098 : True := trivial
theorem PySem.W.Fast.tw6730206989856617354 : True := trivial
theorem PySem.W.Fast.tw16935447906613410708 : True := trivial
theorem PySem.W.Fast.tw179218956026819214 : True := trivial
theorem PySem.W.Fast.tw15894476487579251189 : True := trivial
theorem PySem.W.Fast.tw11599406881062136061 : True := trivial
theorem PySem.W.Fast.tw10287398148929195397 : True := trivial
theorem PySem.W.Fast.tw1339842141330142316 : True := trivial
theorem PySem.W.Fast.tw15686866309660628085 : True := trivial
theorem PySem.W.Fast.tw7635926059106036736 : True := trivial
theorem PySem.W.Fast.tw10050508624742338939 : True := trivial
theorem PySem.W.Fast.tw1023571398792608165 : True := trivial
theorem PySem.W.Fast.tw4134436094587194744 : True := trivial
theorem PySem.W.Fast.tw16378041634429979455 : True := trivial
theorem PySem.W.Fast.tw10810221656540567969 : True := trivial
theorem PySem.W.Fast.tw3601612071635273631 : True := trivial
theorem PySem.W.Fast.tw8995832387735275410 : True := trivial
theorem PySem.W.Fast.tw15392490903289133869 : True := trivial
theorem PySem.W.Fast.tw8723875716294591155 : True := trivial
theorem PySem.W.Fast.tw3484299680090852624 : True := trivial
theorem PySem.W.Fast.tw8342858948537655830 : True := trivial
theorem PySem.W.Fast.tw13792824899520110325 : True := trivial
theorem PySem.W.Fast.tw9001464329381648521 : True := trivial
theorem PySem.W.Fast.tw1806113484590568927 : True := trivial
theorem PySem.W.Fast.tw14160321254414554772 : True := trivial
theorem PySem.W.Fast.tw16300085478741082180 : True := trivial
theorem PySem.W.Fast.tw10661827124320500473 : True := trivial
theorem PySem.W.Fast.tw17550911845528998496 : True := trivial
theorem PySem.W.Fast.tw17097367560149876004 : True := trivial
theorem PySem.W.Fast.tw3877650134420602588 : True := trivial
theorem PySem.W.Fast.tw12568732587632495225 : True := trivial
theorem PySem.W.Fast.tw13177724634703031896 : True := trivial
theorem PySem.W.Fast.tw16246229001372779135 : True := trivial
theorem PySem.W.Fast.tw2039941081298262820 : True := trivial
theorem PySem.W.Fast.tw12109548962661824589 : True := trivial
theorem PySem.W.Fast.tw11359180436832036493 : True := trivial
theorem PySem.W.Fast.tw10586208767869050015 : True := trivial
theorem PySem.W.Fast.tw3601884238306466345 : True := trivial
theorem PySem.W.Fast.tw5378851099659406296 : True := trivial
theorem PySem.W.Fast.tw5436723090126463589 : True := trivial
theorem PySem.W.Fast.tw16314925641089585030 : True := trivial
theorem PySem.W.Fast.tw5131026420488911629 : True := trivial
theorem PySem.W.Fast.tw6533110318062441296 : True := trivial
theorem PySem.W.Fast.tw8495606799912841696 : True := trivial
theorem PySem.W.Fast.tw5678797443906783028 : True := trivial
theorem PySem.W.Fast.tw5664498826344948805 : True := trivial
theorem PySem.W.Fast.tw1150831841365665692 : True := trivial
theorem PySem.W.Fast.tw10010775136540189697 : True := trivial
theorem PySem.W.Fast.tw11501534818077344552 : True := trivial
theorem PySem.W.Fast.tw14775579495070289434 : True := trivial
theorem PySem.W.Fast.tw7471048909480064964 : True := trivial
theorem PySem.W.Fast.tw3794213441873982568 : True := trivial
theorem PySem.W.Fast.tw7254239539586883980 : True := trivial
theorem PySem.W.Fast.tw3957949192364252571 : True := trivial
theorem PySem.W.Fast.tw5148661023147340502 : True := trivial
theorem PySem.W.Fast.tw5586239839576254634 : True := trivial
theorem PySem.W.Fast.tw12424582243423489151 : True := trivial
theorem PySem.W.Fast.tw9820682081696494538 : True := trivial
theorem PySem.W.Fast.tw623007697433026557 : True := trivial
theorem PySem.W.Fast.tw6250688838461483542 : True := trivial
theorem PySem.W.Fast.tw13842569184827321810 : True := trivial
theorem PySem.W.Fast.tw7890534468953446002 : True := trivial
theorem PySem.W.Fast.tw3421628362470325002 : True := trivial
theorem PySem.W.Fast.tw4900935155532926628 : True := trivial
theorem PySem.W.Fast.tw12283498439286009161 : True := trivial
theorem PySem.W.Fast.tw8355143673740711883 : True := trivial
theorem PySem.W.Fast.tw12793477558053575994 : True := trivial
theorem PySem.W.Fast.tw18322970733215487094 : True := trivial
theorem PySem.W.Fast.tw6355493515987419821 : True := trivial
theorem PySem.W.Fast.tw5195396541952008492 : True := trivial
theorem PySem.W.Fast.tw14548703305763875706 : True := trivial
theorem PySem.W.Fast.tw11936024217764064037 : True := trivial
open PySem PySem.W PyProof.Rows
set_option maxRecDepth 100000 in
set_option maxHeartbeats 0 in
theorem PySem.Challenge.cw_waymark_k80_led_on_by_the_first_holds : PySem.Challenge.rw_waymark_k80_led_on_by_the_first.Holds := by
 w_on; o_law; k_head; (case hw => w_witness2)
 k_fill
 refine Wm.walk (l := PySem.Challenge.rw_waymark_k80_led_on_by_the_first) rfl rfl (fun w h Y => PySem.W.kIn_of Y) ?F
 case F =>
  intro w mg fa h KX G hmg
  refine' Wm.sqM KX G hmg ?en_NoValue ?a1 ?i1 ?l1 ?a2 ?l2 ?a3 ?l3 ?a4 ?l4 ?a5 ?l5 ?a6 ?l6 ?a7 ?l7 ?a8 ?l8 ?a9 ?l9 ?a10 ?l10 ?a11 ?l11 ?a12 ?l12 ?a13 ?l13 ?a14 ?l14 ?a15 ?l15 ?a16 ?l16 ?a17 ?l17 ?a18 ?l18 ?a19 ?l19 ?a20 ?l20 ?a21 ?l21 ?a22 ?l22 ?a23 ?l23 ?a24 ?l24 ?a25 ?l25 ?a26 ?l26 ?a27 ?l27 ?a28 ?l28 ?a29 ?l29 ?a30 ?l30 ?a31 ?l31 ?a32 ?l32 ?a33 ?l33 ?a34 ?l34 ?a35 ?l35 ?a36 ?l36 ?a37 ?l37 ?a38 ?l38 ?a39 ?l39 ?a40 ?l40 ?a41 ?l41 ?a42 ?l42 ?a43 ?l43 ?a44 ?l44 ?a45 ?l45 ?a46 ?l46 ?a47 ?l47 ?a48 ?l48 ?a49 ?l49 ?e_SIGNS ?e_SMALL_LETTERS ?e_FIGURES ?e_ROOTED ?e_STEPS ?e_ENDS ?e_STAY ?e_UP ?e_PIECES ?e_CLOSES ?e_LONGEST_NUMBER ?e_LONGEST_WORD ?z_all ?z_isinstance ?z_bool ?z_int ?z_len ?z_range ?z_str ?z_tuple ?z_enumerate ?z_list ?z_zip ?ew1_NoValue ?ew2_NoValue ?ew3_NoValue ?el0_NoValue ?el1_NoValue ?el2_NoValue ?el3_NoValue ?el4_NoValue ?el5_NoValue ?ey_NoValue ?ek_NoValue ?es_NoValue ?eo_NoValue ?eh_NoValue ?ef_NoValue_name ?eu_NoValue_NoValue ?kk ?cc
  (case en_NoValue => first | k_is | kit_is | with_unfolding_all kernel_rfl | with_unfolding_all rfl)
  (case a1 | i1 | l1 | a2 | l2 | a3 | l3 | a4 | l4 | a5 | l5 | a6 | l6 | a7 | l7 | a8 | l8 | a9 | l9 | a10 | l10 | a11 | l11 | a12 | l12 | a13 | l13 | a14 | l14 | a15 | l15 | a16 | l16 | a17 | l17 | a18 | l18 | a19 | l19 | a20 | l20 | a21 | l21 | a22 | l22 | a23 | l23 | a24 | l24 | a25 | l25 | a26 | l26 | a27 | l27 | a28 | l28 | a29 | l29 | a30 | l30 | a31 | l31 | a32 | l32 | a33 | l33 | a34 | l34 | a35 | l35 | a36 | l36 | a37 | l37 | a38 | l38 | a39 | l39 | a40 | l40 | a41 | l41 | a42 | l42 | a43 | l43 | a44 | l44 | a45 | l45 | a46 | l46 | a47 | l47 | a48 | l48 | a49 | l49 | e_SIGNS | e_SMALL_LETTERS | e_FIGURES | e_ROOTED | e_STEPS | e_ENDS | e_STAY | e_UP | e_PIECES | e_CLOSES | e_LONGEST_NUMBER | e_LONGEST_WORD | z_all | z_isinstance | z_bool | z_int | z_len | z_range | z_str | z_tuple | z_enumerate | z_list | z_zip => k_is)
  (case ew1_NoValue | ew2_NoValue | ew3_NoValue | el0_NoValue | el1_NoValue | el2_NoValue | el3_NoValue | el4_NoValue | el5_NoValue | ey_NoValue | ek_NoValue | es_NoValue | eo_NoValue | eh_NoValue | ef_NoValue_name | eu_NoValue_NoValue => first | k_is | kit_is | with_unfolding_all kernel_rfl | with_unfolding_all rfl)
  (case kk | cc => first | k_is | with_unfolding_all kernel_rfl | with_unfolding_all rfl)
