import PyProof.Rows.All
import Wide.All
import OpenK.AllK
import Wide.FinOn
import Lean
import PyProof.EqAt
import PyProof.EqKinds
import PyProof.TupleCall
import PySem.Challenge.RW_waymark_k63_ways_made_and_led_back
set_option Elab.async false
set_option linter.all false
set_option maxRecDepth 100000
namespace L2
open PySem PySem.Spec PyProof.Rows
abbrev Key:=Sum Int Str
def keyIs:Key->Value->Bool
 | .inl k,v => Value.isInt k v
 | .inr x,v => Value.isStrOf x v
def keyH (w:World):Key->Int
 | .inl k => hashInt k
 | .inr x => hashStr w x
theorem aq2:∀ {k:Key}{v:Value},keyIs k v=true->(∃ i t,k=Sum.inl i∧v=Value.int i t) ∨ (∃ x t,k=Sum.inr x∧v=Value.str x t)
 | .inl i,v,h => by
  obtain ⟨t,e⟩:=Value.isInt_shape (k:=i) (v:=v) h
  exact .inl ⟨i,t,rfl,e⟩
 | .inr x,v,h => by
  obtain ⟨t,e⟩:=Value.isStrOf_shape (x:=x) (v:=v) h
  exact .inr ⟨x,t,rfl,e⟩
theorem oqM (i:Int) (t:Tok):keyIs (.inl i) (.int i t)=true:=by simp [keyIs,Value.isInt]
theorem oqr (x:Str) (t:Tok):keyIs (.inr x) (.str x t)=true:=by simp [keyIs,Value.isStrOf]
theorem tq1 (a b:Int):decide ((Sum.inl a:Key)=Sum.inl b)=(a == b):=by
 by_cases e:a=b
 ·subst e; simp
 ·have h:¬ (Sum.inl a:Key)=Sum.inl b:=fun q => e (Sum.inl.inj q)
  rw [decide_eq_false h]
  exact (beq_eq_false_iff_ne.mpr e).symm
theorem tqs (a b:Str):decide ((Sum.inr a:Key)=Sum.inr b)=decide (a=b):=by
 by_cases e:a=b
 ·subst e; simp
 ·have h:¬ (Sum.inr a:Key)=Sum.inr b:=fun q => e (Sum.inr.inj q)
  rw [decide_eq_false h,decide_eq_false e]
theorem tq5 (a:Int) (b:Str):decide ((Sum.inl a:Key)=Sum.inr b)=false:=decide_eq_false (fun q => nomatch q)
theorem tqj (a:Str) (b:Int):decide ((Sum.inr a:Key)=Sum.inl b)=false:=decide_eq_false (fun q => nomatch q)
def mixKind (prog:Program) (w:World):PySem.KeyKind prog w Key where
 is:=keyIs
 hash:=keyH w
 inj:=fun v a b ha hb => by
  rcases aq2 ha with ⟨i,t,rfl,rfl⟩ | ⟨x,t,rfl,rfl⟩
  ·rcases aq2 hb with ⟨j,u,rfl,e⟩ | ⟨y,u,rfl,e⟩
   ·injection e with e1 _; rw [e1]
   ·exact nomatch e
  ·rcases aq2 hb with ⟨j,u,rfl,e⟩ | ⟨y,u,rfl,e⟩
   ·exact nomatch e
   ·injection e with e1 _; rw [e1]
 byValue:=fun k v h => by
  rcases aq2 h with ⟨i,t,rfl,rfl⟩ | ⟨x,t,rfl,rfl⟩ <;> rfl
 pyHash:=fun hv h => by
  rcases aq2 hv with ⟨i,t,rfl,rfl⟩ | ⟨x,t,rfl,rfl⟩
  ·exact wpAny_pyHash_int h
  ·exact wpAny_pyHash_str h
 eqBool:=fun hu hv h => by
  rcases aq2 hu with ⟨i,t,rfl,rfl⟩ | ⟨x,t,rfl,rfl⟩
  ·rcases aq2 hv with ⟨j,u,rfl,rfl⟩ | ⟨y,u,rfl,rfl⟩
   ·rw [tq1] at h; exact wpAny_eqBool_int h
   ·rw [tq5] at h; exact SeqAt.EqAt.int_str i t y u _ _ _ _ h
  ·rcases aq2 hv with ⟨j,u,rfl,rfl⟩ | ⟨y,u,rfl,rfl⟩
   ·rw [tqj] at h; exact SeqAt.EqAt.str_int x t j u _ _ _ _ h
   ·rw [tqs] at h; exact wpAny_eqBool_str h
 «strs»:=fun k x t v h => by
  rcases aq2 h with ⟨i,u,rfl,e⟩ | ⟨y,u,rfl,e⟩
  ·exact nomatch e
  ·injection e with e1 _
   subst e1
   cases v <;> rfl
theorem lqM (prog:Program) (w:World) (i:Int) (t:Tok):(mixKind prog w).is (.inl i) (.int i t)=true:=oqM i t
theorem lqY (prog:Program) (w:World) (x:Str) (t:Tok):(mixKind prog w).is (.inr x) (.str x t)=true:=oqr x t
inductive V where
 | non | bl (b:Bool) | int (i:Int) | str (x:Str) | byt (b:Array UInt8) | flt (b:UInt64) | ref (a:Addr) | ty (n:String)
 deriving DecidableEq
def RelV:V->Value->Prop
 | .non,u => u=Value.none
 | .bl b,u => u=Value.bool b
 | .int i,u => ∃ t,u=Value.int i t
 | .str x,u => ∃ t,u=Value.str x t
 | .byt b,u => ∃ t,u=Value.bytes b t
 | .flt b,u => ∃ t,u=Value.float b t
 | .ref a,u => u=Value.ref a
 | .ty n,u => u=Value.type n
abbrev Vals:List V->List Value->Prop:=Paired RelV
theorem Vals.length {xs:List V}{us:List Value} (r:Vals xs us):xs.length=us.length:=Paired.length r
theorem Vals.get:∀ {xs:List V}{us:List Value}{i:Nat}{x:V},Vals xs us->xs[i]?=some x->∃ u,us[i]?=some u∧RelV x u
 | _,_,_,_,.nil,e => by simp at e
 | _,_,0,_,.cons r _,e => by simp at e; subst e; exact ⟨_,rfl,r⟩
 | _,_,i + 1,x,.cons _ t,e => by
  obtain ⟨u,h1,h2⟩:=Vals.get (i:=i) (x:=x) t (by simpa using e)
  exact ⟨u,by simpa using h1,h2⟩
theorem Vals.set {x:V}{u:Value} (r:RelV x u):∀ {xs:List V}{us:List Value} (i:Nat),Vals xs us->Vals (xs.set i x) (us.set i u)
 | _,_,_,.nil => .nil
 | _,_,0,.cons _ t => .cons r t
 | _,_,i + 1,.cons q t => .cons q (Vals.set r i t)
theorem Vals.append:∀ {xs ys:List V}{us ws:List Value},Vals xs us->Vals ys ws->Vals (xs ++ ys) (us ++ ws)
 | _,_,_,_,.nil,s => s
 | _,_,_,_,.cons r t,s => .cons r (Vals.append t s)
theorem Vals.take:∀ {xs:List V}{us:List Value} (n:Nat),Vals xs us->Vals (xs.take n) (us.take n)
 | _,_,0,_ => .nil
 | _,_,_ + 1,.nil => .nil
 | _,_,n + 1,.cons r t => .cons r (Vals.take n t)
theorem Vals.drop:∀ {xs:List V}{us:List Value} (n:Nat),Vals xs us->Vals (xs.drop n) (us.drop n)
 | _,_,0,r => r
 | _,_,_ + 1,.nil => .nil
 | _,_,n + 1,.cons _ t => Vals.drop n t
def RelO:Option V->Option Value->Prop
 | some v,some u => RelV v u
 | none,none => True
 | _,_ => False
def KV {κ:Type}:List (κ × V)->List (κ × Value)->Prop:=Paired fun (p:κ × V) (q:κ × Value) => p.1=q.1∧RelV p.2 q.2
def kV:Key->V
 | .inl i => .int i
 | .inr x => .str x
inductive HO where
 | lst (xs:List V)
 | tup (xs:List V)
 | dK (kvs:List (Key × V)) | dT (kvs:List (List Key × V))
 | set (S:Int->Bool) (n:Nat)
 | ins (C dx:Addr) (fs:List (Str × V))
 | own (x:Addr)
 | xd (fs:List (Str × V))
 | met (f x:Addr)
 | rng (lo hi:Int)
 | frz (o:Obj) (u:HO)
 | tbl (ps:Array Value)
 | ext (φ:Heap->Prop)
abbrev Hp:=Addr->Option HO
def upd (H:Hp) (a:Addr) (o:HO):Hp:=fun b => if b=a then some o else H b
theorem aqk {H:Hp}{a:Addr}{o:HO}:upd H a o a=some o:=by unfold upd; rw [if_pos rfl]
theorem aqq {H:Hp}{a b:Addr}{o:HO} (h:b ≠ a):upd H a o b=H b:=by unfold upd; rw [if_neg h]
theorem sq4 {H:Hp}{a:Addr}{o u:HO}:upd (upd H a o) a u=upd H a u:=by
 funext b; unfold upd; split <;> rfl
theorem uqo {H:Hp}{a b:Addr}{o u:HO} (h:H a=some o) (h':H b=some u) (d:o ≠ u):a ≠ b:=by
 intro e; subst e; rw [h] at h'; exact d (Option.some.inj h')
theorem aql {H:Hp}{a b:Addr}{o:HO} (h:H a=some o) (h':H b=none):a ≠ b:=by
 intro e; subst e; rw [h] at h'; cases h'
section
variable (P:Program) (w:World)
def ObjOk (H:Hp) (h:Heap) (a:Addr):HO->Prop
 | .lst xs => xs.length ≤ sizeLine∧∃ (its:List Value) (n:Nat),Vals xs its∧h.get? a=some { cls:=.type "list",data:=.seq its.toArray n }
 | .tup xs => xs.length ≤ sizeLine∧∃ its:List Value,Vals xs its∧IsTup h a its.toArray
 | .dK kvs => kvs.length ≤ sizeLine∧(a == sysModules)=false∧∃ vs,KV kvs vs∧h.DictOf (mixKind P w) a vs
 | .dT kvs => kvs.length ≤ sizeLine∧(a == sysModules)=false∧∃ xs:List (List Key × Addr × Value),
   Paired (fun (p:List Key × V) (q:List Key × Addr × Value) => p.1=q.1∧H q.2.1=some (.tup (p.1.map kV))∧RelV p.2 q.2.2) kvs xs ∧
   ∃ o es ep,h.get? a=some o∧o.ExactDict∧o.data=.dict es ep∧es.toList=xs.map (entryOfKey (tupleKind (mixKind P w)))∧(xs.map (·.1)).Nodup
 | .set S n => h.SetOf (intKind P w) a S n
 | .ins C dx fs => H dx=some (.own a)∧fs.length ≤ 1000∧dx ≠ a∧h.get? a=some (PySem.W.instObj C dx) ∧
   ∃ mA,h.Ns1 dx mA∧(∀ f,RelO (fs.lookup f) (mA f))∧PySem.Within mA (fs.map (·.1))
 | .own _ => ∃ o,h.get? a=some o
 | .xd fs => ∃ mA,h.Ns1 a mA∧∀ f,RelO (fs.lookup f) (mA f)
 | .rng lo hi => ∃ t u v,h.get? a=some { cls:=.type "range",data:=.fields #[.int lo t,.int hi u,.int 1 v] }
 | .frz o u => h.get? a=some o∧ObjOk H h a u
 | .tbl ps => h.get? a=some { cls:=.none,data:=.fields ps }
 | .met f x => h.get? a=some (PySem.W.methodObj (.ref f) (.ref x))
 | .ext φ => φ h∧(∃ o,h.get? a=some o)∧∀ h1 h2:Heap,φ h1->(∀ o,h1.get? a=some o->h2.get? a=some o)->φ h2
def HOk (H:Hp) (h:Heap):Prop:=∀ a o,H a=some o->ObjOk P w H h a o
end
section
variable {P:Program}{w:World}{H H':Hp}{h h':Heap}{a:Addr}{o:HO}
theorem ObjOk.lt (x:ObjOk P w H h a o):a < h.objs.size:=by
 cases o with
 | lst xs => obtain ⟨_,_,_,_,e⟩:=x; exact Heap.lt_size e
 | tup xs => obtain ⟨_,_,_,p⟩:=x; exact p.lt
 | dK kvs => obtain ⟨_,_,_,_,o,_,_,e,_⟩:=x; exact Heap.lt_size e
 | dT kvs => obtain ⟨_,_,_,_,o,_,_,e,_⟩:=x; exact Heap.lt_size e
 | set S n => obtain ⟨o,_,_,_,e,_⟩:=x; exact Heap.lt_size e
 | ins C dx fs => obtain ⟨_,_,_,e,_⟩:=x; exact Heap.lt_size e
 | own y => obtain ⟨_,e⟩:=x; exact Heap.lt_size e
 | xd fs => obtain ⟨_,⟨_,_,_,e,_⟩,_⟩:=x; exact Heap.lt_size e
 | rng lo hi => obtain ⟨_,_,_,e⟩:=x; exact Heap.lt_size e
 | frz ob u => obtain ⟨e,_⟩:=x; exact Heap.lt_size e
 | tbl ps => exact Heap.lt_size (show h.get? a=some _ from x)
 | met f y => exact Heap.lt_size (show h.get? a=some _ from x)
 | ext φ => obtain ⟨_,⟨_,e⟩,_⟩:=x; exact Heap.lt_size e
theorem Paired.mapP {α β:Type}{F G:α->β->Prop}:∀ {l₁:List α}{l₂:List β},Paired F l₁ l₂->(∀ a b,F a b->G a b)->Paired G l₁ l₂
 | _,_,.nil,_ => .nil
 | _,_,.cons r t,f => .cons (f _ _ r) (Paired.mapP t f)
theorem ObjOk.stay (x:ObjOk P w H h a o) (k:∀ b u,(b=a ∨ H b=some (.own a))->h.get? b=some u->h'.get? b=some u)
  (ho:∀ b,H b=some (.own a)->H' b=some (.own a)) (ht:∀ b xs,H b=some (.tup xs)->H' b=some (.tup xs)):ObjOk P w H' h' a o:=by
 induction o with
 | lst xs => obtain ⟨z,its,n,r,e⟩:=x; exact ⟨z,its,n,r,k _ _ (.inl rfl) e⟩
 | tup xs => obtain ⟨z,its,r,ob,e,c⟩:=x; exact ⟨z,its,r,ob,k _ _ (.inl rfl) e,c⟩
 | dK kvs => obtain ⟨z,y,vs,r,ob,es,ep,e,c⟩:=x; exact ⟨z,y,vs,r,ob,es,ep,k _ _ (.inl rfl) e,c⟩
 | dT kvs =>
  obtain ⟨z,y,xs,r,ob,es,ep,e,c⟩:=x
  exact ⟨z,y,xs,Paired.mapP r fun p q z => ⟨z.1,ht _ _ z.2.1,z.2.2⟩,ob,es,ep,k _ _ (.inl rfl) e,c⟩
 | set S n => obtain ⟨ob,es,ep,t,e,c⟩:=x; exact ⟨ob,es,ep,t,k _ _ (.inl rfl) e,c⟩
 | ins C dx fs =>
  obtain ⟨d,z,ne,e,mA,⟨od,es,ep,e2,c⟩,r⟩:=x
  exact ⟨ho _ d,z,ne,k _ _ (.inl rfl) e,mA,⟨od,es,ep,k _ _ (.inr d) e2,c⟩,r⟩
 | own y => obtain ⟨ob,e⟩:=x; exact ⟨ob,k _ _ (.inl rfl) e⟩
 | xd fs => obtain ⟨mA,⟨od,es,ep,e,c⟩,r⟩:=x; exact ⟨mA,⟨od,es,ep,k _ _ (.inl rfl) e,c⟩,r⟩
 | rng lo hi => obtain ⟨t,u,v,e⟩:=x; exact ⟨t,u,v,k _ _ (.inl rfl) e⟩
 | frz ob u ih => obtain ⟨e,q⟩:=x; exact ⟨k _ _ (.inl rfl) e,ih q⟩
 | tbl ps =>
  have e:h.get? a=some { cls:=.none,data:=.fields ps }:=x
  show h'.get? a=some { cls:=.none,data:=.fields ps }
  exact k a _ (.inl rfl) e
 | met f y =>
  have e:h.get? a=some (PySem.W.methodObj (.ref f) (.ref y)):=x
  show h'.get? a=some (PySem.W.methodObj (.ref f) (.ref y))
  exact k a _ (.inl rfl) e
 | ext φ => obtain ⟨p,⟨o,e⟩,st⟩:=x; exact ⟨st _ _ p fun o q => k _ _ (.inl rfl) q,⟨o,k _ _ (.inl rfl) e⟩,st⟩
theorem HOk.lt (x:HOk P w H h) (e:H a=some o):a < h.objs.size:=(x a o e).lt
theorem HOk.fresh (x:HOk P w H h) (e:h.objs.size ≤ a):H a=none:=by
 cases q:H a with
 | none => rfl
 | some u => exact absurd (Nat.lt_of_lt_of_le (x.lt q) e) (Nat.lt_irrefl _)
theorem HOk.kept (x:HOk P w H h) (k:∀ b u,h.get? b=some u->h'.get? b=some u):HOk P w H h':=fun a o e =>
 (x a o e).stay (fun b u _ q => k b u q) (fun _ q => q) fun _ _ q => q
theorem HOk.laid (x:HOk P w H h) (k:∀ b u,h.get? b=some u->h'.get? b=some u) (hp:h.objs.size ≤ a) (new:ObjOk P w (upd H a o) h' a o):HOk P w (upd H a o) h':=fun b u e => by
 have hn:=x.fresh hp
 by_cases hb:b=a
 ·subst hb; rw [aqk] at e; cases e; exact new
 ·rw [aqq hb] at e
  exact (x b u e).stay (fun c v _ q => k c v q) (fun c q => by rw [aqq (aql q hn)]; exact q) fun c xs q => by rw [aqq (aql q hn)]; exact q
end
def Rd (H:Hp) (a:Addr) (u:HO):Prop:=H a=some u ∨ ∃ o,H a=some (.frz o u)
theorem Rd.ok {P:Program}{w:World}{H:Hp}{h:Heap}{a:Addr}{u:HO} (r:Rd H a u) (x:HOk P w H h):ObjOk P w H h a u:=by
 rcases r with r | ⟨o,r⟩
 ·exact x a u r
 ·obtain ⟨_,q⟩:=x a _ r
  exact q
def Mut:Option HO->Prop
 | some (.lst _) => True
 | some (.dK _) => True
 | some (.dT _) => True
 | some (.set _ _) => True
 | some (.ins _ _ _) => True
 | some (.ext _) => True
 | _ => False
section
variable {P:Program}{w:World}{H:Hp}{h h':Heap}{x e:Addr}{o':HO}
theorem HOk.write (ok:HOk P w H h) (mu:Mut (H x)) (he:e=x ∨ H e=some (.own x)) (k:∀ b u,b ≠ e->h.get? b=some u->h'.get? b=some u) (heo:∃ u,h'.get? e=some u)
  (new:ObjOk P w (upd H x o') h' x o'):HOk P w (upd H x o') h':=fun b u q => by
 have nown:∀ c y,H c=some (.own y)->c ≠ x:=fun c y r z => by subst z; rw [r] at mu; exact mu
 have ntup:∀ c xs,H c=some (.tup xs)->c ≠ x:=fun c xs r z => by subst z; rw [r] at mu; exact mu
 by_cases hb:b=x
 ·subst hb; rw [aqk] at q; cases q; exact new
 ·rw [aqq hb] at q
  by_cases hbe:b=e
  ·have q':H b=some (.own x):=by
    rcases he with z | z
    ·exact absurd (hbe.trans z) hb
    ·rw [hbe]; exact z
   rw [q] at q'; cases q'
   obtain ⟨v,hv⟩:=heo
   exact ⟨v,by rw [hbe]; exact hv⟩
  ·refine (ok b u q).stay (fun c v hc r => k c v ?_ r) (fun c r => by rw [aqq (nown c b r)]; exact r) fun c xs r => by rw [aqq (ntup c xs r)]; exact r
   rcases hc with rfl | hc
   ·exact hbe
   ·rintro rfl
    rcases he with z | z
    ·exact nown c b hc z
    ·rw [hc] at z; cases z; exact hb rfl
end
structure Un (fs ex:List Addr) (H H':Hp) (h h':Heap):Prop where
 keep:∀ b o,h.get? b=some o->H b=none->b ∉ fs->b ∉ ex->h'.get? b=some o
 slot:∀ b o,h.get? b=some o->H b=none->b ∈ fs->b ∉ ex->∃ sl,h'.get? b=some { o with slots:=sl }
 free:∀ b o,h.get? b=some o->H b=none->b ∉ ex->H' b=none
 there:∀ b o,h.get? b=some o->b ∉ ex->∃ o',h'.get? b=some o'
 tups:∀ b xs,H b=some (.tup xs)->H' b=some (.tup xs)
 frzs:∀ b o u,H b=some (.frz o u)->H' b=some (.frz o u)
 tbls:∀ b ps,H b=some (.tbl ps)->∃ more,H' b=some (.tbl (ps ++ more))
section
variable {fs fs' ex ex':List Addr}{H H1 H2:Hp}{h h1 h2 h':Heap}{a x e:Addr}{o:HO}
theorem Un.any (u:Un fs ex H H1 h h1) {b:Addr}{ob:Obj} (q:h.get? b=some ob) (n:H b=none) (hx:b ∉ ex):∃ sl,h1.get? b=some { ob with slots:=sl }:=by
 by_cases hb:b ∈ fs
 ·exact u.slot b ob q n hb hx
 ·exact ⟨ob.slots,u.keep b ob q n hb hx⟩
theorem Un.kept (k:∀ b u,h.get? b=some u->h'.get? b=some u):Un fs ex H H h h' :=
 ⟨fun b ob q _ _ _ => k b ob q,fun b ob q _ _ _ => ⟨ob.slots,k b ob q⟩,fun _ _ _ n _ => n,fun b ob q _ => ⟨ob,k b ob q⟩,fun _ _ q => q,fun _ _ _ q => q,fun _ ps q => ⟨#[],by rw [q]; simp⟩⟩
theorem Un.refl:Un fs ex H H h h:=Un.kept fun _ _ q => q
theorem Un.laid (k:∀ b u,h.get? b=some u->h'.get? b=some u) (hp:h.objs.size ≤ a) (hn:H a=none):Un fs ex H (upd H a o) h h' where
 keep:=fun b u q _ _ _ => k b u q
 slot:=fun b u q _ _ _ => ⟨u.slots,k b u q⟩
 free:=fun b u q n _ => by rw [aqq (Nat.ne_of_lt (Nat.lt_of_lt_of_le (Heap.lt_size q) hp))]; exact n
 there:=fun b u q _ => ⟨u,k b u q⟩
 tups:=fun b xs q => by rw [aqq (aql q hn)]; exact q
 frzs:=fun b u xs q => by rw [aqq (aql q hn)]; exact q
 tbls:=fun b ps q => ⟨#[],by rw [aqq (aql q hn),q]; simp⟩
theorem Un.write (mu:Mut (H x)) (he:e=x ∨ H e=some (.own x)) (k:∀ b u,b ≠ e->h.get? b=some u->h'.get? b=some u) (heo:∃ u,h'.get? e=some u):Un fs ex H (upd H x o) h h':=by
 have hx:∀ b,H b=none->b ≠ x:=fun b n z => by subst z; rw [n] at mu; exact mu
 have hb:∀ b,H b=none->b ≠ e:=fun b n z => by
  subst z
  rcases he with r | r
  ·exact hx b n r
  ·rw [n] at r; cases r
 have hm:∀ b u,H b=some u->¬ Mut (some u)->b ≠ x:=fun b u q nm z => by subst z; rw [q] at mu; exact nm mu
 refine ⟨fun b u q n _ _ => k b u (hb b n) q,fun b u q n _ _ => ⟨u.slots,k b u (hb b n) q⟩,fun b u q n _ => by rw [aqq (hx b n)]; exact n,fun b u q _ => ?_,
  fun b xs q => by rw [aqq (hm b _ q fun z => z)]; exact q,fun b u xs q => by rw [aqq (hm b _ q fun z => z)]; exact q,fun b ps q => ⟨#[],by rw [aqq (hm b _ q fun z => z),q]; simp⟩⟩
 by_cases hbe:b=e
 ·subst hbe; exact heo
 ·exact ⟨u,k b u hbe q⟩
end
def trk (h:Heap) (H:Hp):List Addr:=(List.range h.objs.size).filter fun a => (H a).isSome
def hidT (h:Heap) (H:Hp):Heap:=PySem.W.hideAll h (trk h H)
theorem pqx (h:Heap) (H:Hp):(hidT h H).objs.size=h.objs.size:=PySem.W.hideAll_size _ _
theorem pq3 {h:Heap}{H:Hp}{b:Addr}{o:Obj} (e:h.get? b=some o) (n:H b=none):(hidT h H).get? b=some o :=
 PySem.W.hideAll_get _ e fun hm => by
  have q:(H b).isSome=true:=(List.mem_filter.mp hm).2
  rw [n] at q; simp at q
theorem rqB {h:Heap}{H:Hp}{b:Addr}{o:Obj} (e:(hidT h H).get? b=some o):h.get? b=some o∧H b=none:=by
 have e':h.get? b=some o:=PySem.W.of_hideAll (trk h H) e
 refine ⟨e',?_⟩
 cases q:H b with
 | none => rfl
 | some x =>
  have hm:b ∈ trk h H:=List.mem_filter.mpr ⟨List.mem_range.mpr (Heap.lt_size e'),by simp [q]⟩
  have z:(hidT h H).get? b=none:=PySem.W.hideAll_none (trk h H) hm
  rw [z] at e; cases e
def allNews (g h:Heap) (L:Addr):List (Addr × Obj):=(List.range h.objs.size).filterMap fun a => if a=L ∨ (g.get? a).isSome=true then none else (h.get? a).map fun o => (a,o)
def rest (g h:Heap) (L d:Addr):List (Addr × Obj):=(allNews g h L).filter fun p => decide (p.1 ≠ d)
structure Mod (K:PySem.W.Frag) (mg:Str->Option Value) (base:Heap):Prop where
 kin:K.In base
 glob:base.Ns mainGlobals mg
 blt:∃ mb,base.Ns builtinsNs mb∧∀ x:Str,x ≠ "__name__" -> mb x=bootBuiltins x
 nolimit:base.NoLimit
structure Cx where
 prog:Program
 w:World
 K:PySem.W.Frag
 mg:Str->Option Value
 base:Heap
 A:Around
 N:List Str
 s₀:Shared
 H₀:Hp
 env:Env
 outer:List Env
 stack:List Env
 ex:List Addr
 fn:Str->Bool
 calm:Bool
 pn:List (Addr × Obj)
 xe:Value->Shared->Prop
def frs (l:List Env):List Addr:=l.filterMap (·.frame)
abbrev Cx.fs (X:Cx):List Addr:=frs X.outer
def Vis (sc:Scope) (x:Str):Prop:=sc.names.lookup x=some .local ∨ sc.names.lookup x=some .cell ∨ sc.names.lookup x=some .free
def Loc (sc:Scope) (x:Str):Prop:=sc.names.lookup x=some .local ∨ sc.names.lookup x=some .cell
def Look (env:Env) (h:Heap) (m:Str->Option Value) (x:Str) (u:Value):Prop :=
 (env.kindOf x=some .local∧m x=some u) ∨ ((env.kindOf x=some .cell ∨ env.kindOf x=some .free)∧∃ c,env.cells.lookup x=some c∧h.IsCell c (some u))
structure Cx.Ok (X:Cx):Prop where
 mod:Mod X.K X.mg X.base
 kind:X.env.scope.kind=.function
 glob:X.env.globals=mainGlobals
 blt:X.env.builtins=builtinsNs
 above:X.s₀.heap.objs.size ≤ X.env.locals
 inj:∀ x y c,X.env.cells.lookup x=some c->X.env.cells.lookup y=some c->x=y
 has:∀ x,(X.env.kindOf x=some .cell ∨ X.env.kindOf x=some .free)->∃ c,X.env.cells.lookup x=some c
 cab:∀ x c,X.fn x=true->X.env.cells.lookup x=some c->X.s₀.heap.objs.size ≤ c
 hd:X.calm=true->X.A.handled=none
 frames:X.A.frames=some X.stack
 stk:X.stack=X.outer ∨ (X.stack=X.env :: X.outer∧X.env.frame=some X.env.locals)
 exf:∀ b ∈ X.ex,b ≠ X.env.locals∧∀ x c,X.env.cells.lookup x=some c->c ≠ b
 bs:∀ b o,X.base.get? b=some o->X.s₀.heap.get? b=some o∧X.H₀ b=none
 bsz:X.base.objs.size ≤ X.s₀.heap.objs.size
 noex:∀ b o,X.base.get? b=some o->b ∉ X.ex
 exfs:∀ b ∈ X.ex,b ∉ X.fs
 funs:X.s₀.heap.FunFrames X.base X.outer
 frf:∀ b ∈ X.fs,X.H₀ b=none
structure Inv (X:Cx) (pins:List (Addr × Obj)) (σ:List (Option V)) (H:Hp) (s:Shared):Prop where
 ok:X.Ok
 os:s.os=X.s₀.os
 bare:AllBare s.gens
 base:Un X.fs X.ex X.H₀ H X.s₀.heap s.heap
 loc:∃ m,s.heap.Ns X.env.locals m∧∀ (i:Nat) (x:Str) (v:V),X.N[i]?=some x->σ[i]?=some (some v)->Vis X.env.scope x->∃ u,RelV v u∧Look X.env s.heap m x u
 cell:∀ x c,X.env.cells.lookup x=some c->∃ v,s.heap.IsCell c v
 free:H X.env.locals=none
 freeC:∀ x c,X.env.cells.lookup x=some c->H c=none
 pin:∀ p ∈ X.pn ++ pins,s.heap.get? p.1=some p.2∧H p.1=none∧p.1 ≠ X.env.locals∧p.1 ∉ X.fs∧∀ v,p.2.data ≠ .cell v
 hok:HOk X.prog X.w H s.heap
 len:σ.length=X.N.length
section
variable {X:Cx}{pins:List (Addr × Obj)}{σ:List (Option V)}{H H':Hp}{s:Shared}{h':Heap}
theorem Cx.Ok.nofr (ok:X.Ok) {b:Addr}{o:Obj} (e:X.base.get? b=some o):b ∉ X.fs:=fun hb => by
 have:=(ok.funs.mem hb).1
 rw [e] at this; cases this
theorem Inv.bs (I:Inv X pins σ H s):∀ b o,X.base.get? b=some o->s.heap.get? b=some o∧H b=none:=fun b o e =>
 ⟨I.base.keep b o (I.ok.bs b o e).1 (I.ok.bs b o e).2 (I.ok.nofr e) (I.ok.noex b o e),I.base.free b o (I.ok.bs b o e).1 (I.ok.bs b o e).2 (I.ok.noex b o e)⟩
theorem Inv.bk (I:Inv X pins σ H s):∀ b o,X.base.get? b=some o->s.heap.get? b=some o:=fun b o e => (I.bs b o e).1
theorem Inv.mod (I:Inv X pins σ H s):Mod X.K X.mg X.base:=I.ok.mod
theorem Inv.kIn (I:Inv X pins σ H s):X.K.In s.heap:=I.ok.mod.kin.keeps I.bk
theorem Inv.lt (I:Inv X pins σ H s):X.env.locals < s.heap.objs.size:=let ⟨_,hn,_⟩:=I.loc; hn.lt
theorem Inv.sz (I:Inv X pins σ H s):X.s₀.heap.objs.size ≤ s.heap.objs.size:=Nat.le_trans I.ok.above (Nat.le_of_lt I.lt)
theorem Inv.nofs (I:Inv X pins σ H s) {a:Addr} (h:s.heap.objs.size ≤ a):a ∉ X.fs:=fun hb => by
 obtain ⟨_,o,ho,_⟩:=I.ok.funs.mem hb
 exact absurd (Nat.lt_of_lt_of_le (Heap.lt_size ho) (Nat.le_trans I.sz h)) (Nat.lt_irrefl _)
theorem Inv.cne (I:Inv X pins σ H s):∀ x c,X.env.cells.lookup x=some c->c ≠ X.env.locals:=fun x c e z => by
 obtain ⟨v,o,ho,hd⟩:=I.cell x c e
 obtain ⟨m,⟨o',es,ep,ho',hd',_⟩,_⟩:=I.loc
 rw [z,ho'] at ho; cases ho; rw [hd'] at hd; cases hd
theorem Inv.funs (I:Inv X pins σ H s):s.heap.FunFrames X.base X.outer:=by
 have all:∀ (l:List Env),(∀ b ∈ frs l,b ∈ X.fs)->X.s₀.heap.FunFrames X.base l->s.heap.FunFrames X.base l:=by
  intro l
  induction l with
  | nil => intro _ _; trivial
  | cons env r ih =>
   intro hs hl
   obtain ⟨hk,⟨L,o,hf,hn,ho,hd⟩,hr⟩:=hl
   have hL:L ∈ X.fs:=hs L (by unfold frs; rw [List.filterMap_cons,hf]; exact List.mem_cons_self)
   obtain ⟨sl,e⟩:=I.base.slot L o ho (I.ok.frf L hL) hL fun z => I.ok.exfs L z hL
   exact ⟨hk,⟨L,_,hf,hn,e,hd⟩,ih (fun b hb => hs b (by unfold frs; rw [List.filterMap_cons,hf]; exact List.mem_cons_of_mem _ hb)) hr⟩
 exact all X.outer (fun _ hb => hb) I.ok.funs
theorem Inv.stack (I:Inv X pins σ H s):s.heap.FunFrames X.base X.stack:=by
 rcases I.ok.stk with e | ⟨e,hf⟩
 ·rw [e]; exact I.funs
 ·rw [e]
  obtain ⟨m,hn,_⟩:=I.loc
  refine .cons (by rw [I.ok.kind]; decide) hf hn ?_ I.funs
  exact Heap.get?_none_of_le (Nat.le_trans I.ok.bsz I.ok.above)
theorem Inv.stkSub (I:Inv X pins σ H s):∀ b ∈ frs X.stack,b ∈ X.env.locals :: X.fs:=fun b hb => by
 rcases I.ok.stk with e | ⟨e,hf⟩
 ·rw [e] at hb; exact List.mem_cons_of_mem _ hb
 ·rw [e] at hb
  unfold frs at hb
  rw [List.filterMap_cons,hf] at hb
  exact hb
theorem Inv.stkFree (I:Inv X pins σ H s):∀ b ∈ frs X.stack,H b=none:=fun b hb => by
 rcases List.mem_cons.mp (I.stkSub b hb) with e | hb
 ·rw [e]; exact I.free
 ·obtain ⟨_,o,ho,_⟩:=I.ok.funs.mem hb
  exact I.base.free b o ho (I.ok.frf b hb) fun z => I.ok.exfs b z hb
theorem Inv.step {g':Array GenState}{t':Nat}{d':Drawn}{ch:List Addr} (I:Inv X pins σ H s)
  (hch:∀ b ∈ ch,(b ∈ X.ex ∨ X.s₀.heap.objs.size ≤ b)∧b ≠ X.env.locals∧(∀ x c,X.env.cells.lookup x=some c->c ≠ b)∧∀ p ∈ X.pn ++ pins,p.1 ≠ b)
  (keep:∀ b o,b ≠ X.env.locals->b ∉ X.fs->b ∉ ch->s.heap.get? b=some o->H b=none->h'.get? b=some o)
  (slot:∀ b o,b ≠ X.env.locals->b ∈ X.fs->b ∉ ch->s.heap.get? b=some o->H b=none->∃ sl,h'.get? b=some { o with slots:=sl }) (free:∀ b o,b ∉ ch->s.heap.get? b=some o->H b=none->H' b=none)
  (there:∀ b o,b ∉ ch->s.heap.get? b=some o->∃ o',h'.get? b=some o')
  (tups:∀ b xs,H b=some (.tup xs)->H' b=some (.tup xs)) (frzs:∀ b o u,H b=some (.frz o u)->H' b=some (.frz o u)) (tbls:∀ b ps,H b=some (.tbl ps)->∃ more,H' b=some (.tbl (ps ++ more)))
  (ns:∀ m,s.heap.Ns X.env.locals m->h'.Ns X.env.locals m) (hok:HOk X.prog X.w H' h') (hg:AllBare g') :
  Inv X pins σ H' { s with heap:=h',gens:=g',drawn:=d',toks:=t' }:=by
 have neL:∀ b o,X.s₀.heap.get? b=some o->b ≠ X.env.locals:=fun b o e => Nat.ne_of_lt (Nat.lt_of_lt_of_le (Heap.lt_size e) I.ok.above)
 have neC:∀ b o,X.s₀.heap.get? b=some o->b ∉ X.ex->b ∉ ch:=fun b o e hx hb => by
  rcases (hch b hb).1 with z | z
  ·exact hx z
  ·exact absurd (Nat.lt_of_lt_of_le (Heap.lt_size e) z) (Nat.lt_irrefl _)
 have cellK:∀ x c,X.env.cells.lookup x=some c->∀ v,s.heap.IsCell c v->h'.IsCell c v:=fun x c e v ⟨o,ho,hd⟩ => by
  have nch:c ∉ ch:=fun z => (hch c z).2.2.1 x c e rfl
  by_cases hc:c ∈ X.fs
  ·obtain ⟨sl,q⟩:=slot c o (I.cne x c e) hc nch ho (I.freeC x c e)
   exact ⟨_,q,hd⟩
  ·exact ⟨o,keep c o (I.cne x c e) hc nch ho (I.freeC x c e),hd⟩
 refine ⟨I.ok,I.os,hg,⟨fun b o e n hb hx => ?_,fun b o e n hb hx => ?_,fun b o e n hx => ?_,fun b o e hx => ?_,fun b xs e => tups b xs (I.base.tups b xs e),fun b o xs e => frzs b o xs (I.base.frzs b o xs e),fun b ps e => ?_⟩,?_,fun x c e => ?_,?_,fun x c e => ?_,fun p hp => ?_,hok,I.len⟩
 ·exact keep b o (neL b o e) hb (neC b o e hx) (I.base.keep b o e n hb hx) (I.base.free b o e n hx)
 ·obtain ⟨sl,e1⟩:=I.base.slot b o e n hb hx
  obtain ⟨sl',e2⟩:=slot b _ (neL b o e) hb (neC b o e hx) e1 (I.base.free b o e n hx)
  exact ⟨sl',e2⟩
 ·obtain ⟨o',e1⟩:=I.base.there b o e hx
  exact free b o' (neC b o e hx) e1 (I.base.free b o e n hx)
 ·obtain ⟨o',e1⟩:=I.base.there b o e hx
  exact there b o' (neC b o e hx) e1
 ·obtain ⟨m1,e1⟩:=I.base.tbls b ps e
  obtain ⟨m2,e2⟩:=tbls b _ e1
  exact ⟨m1 ++ m2,by rw [e2,Array.append_assoc]⟩
 ·obtain ⟨m,hn,hl⟩:=I.loc
  refine ⟨m,ns m hn,fun i x v e1 e2 e3 => ?_⟩
  obtain ⟨u,r,l⟩:=hl i x v e1 e2 e3
  refine ⟨u,r,?_⟩
  rcases l with l | ⟨k,c,e,z⟩
  ·exact .inl l
  ·exact .inr ⟨k,c,e,cellK x c e _ z⟩
 ·obtain ⟨v,z⟩:=I.cell x c e
  exact ⟨v,cellK x c e v z⟩
 ·obtain ⟨m,⟨o,_,_,ho,_⟩,_⟩:=I.loc
  exact free _ o (fun z => (hch _ z).2.1 rfl) ho I.free
 ·obtain ⟨v,o,ho,hd⟩:=I.cell x c e
  exact free c o (fun z => (hch c z).2.2.1 x c e rfl) ho (I.freeC x c e)
 ·obtain ⟨e,n,ne,nf,d⟩:=I.pin p hp
  have nch:p.1 ∉ ch:=fun z => (hch p.1 z).2.2.2 p hp rfl
  exact ⟨keep p.1 p.2 ne nf nch e n,free p.1 p.2 nch e n,ne,nf,d⟩
theorem Inv.un {t':Nat} (I:Inv X pins σ H s) (u:Un X.fs [] H H' s.heap h') (hok:HOk X.prog X.w H' h'):Inv X pins σ H' { s with heap:=h',toks:=t' }:=by
 obtain ⟨m,⟨o,es,ep,ho,r⟩,_⟩:=id I.loc
 obtain ⟨sl,hL⟩:=u.any ho I.free (by simp)
 exact I.step (g':=s.gens) (d':=s.drawn) (ch:=[]) (fun _ z => nomatch z) (fun b o _ hb _ e n => u.keep b o e n hb (by simp)) (fun b o _ hb _ e n => u.slot b o e n hb (by simp)) (fun b o _ e n => u.free b o e n (by simp)) (fun b o _ e => u.there b o e (by simp)) u.tups u.frzs u.tbls (fun m' hm => by
  obtain ⟨o',es',ep',ho',r'⟩:=hm
  rw [ho] at ho'; cases ho'
  exact ⟨_,es',ep',hL,r'⟩) hok I.bare
theorem Inv.call {g':Array GenState}{t':Nat}{d':Drawn}{ch:List Addr} (I:Inv X pins σ H s) (u:Un (frs X.stack) ch H H' s.heap h') (hok:HOk X.prog X.w H' h') (hg:AllBare g')
  (hch:∀ b ∈ ch,(b ∈ X.ex ∨ X.s₀.heap.objs.size ≤ b)∧b ≠ X.env.locals∧(∀ x c,X.env.cells.lookup x=some c->c ≠ b)∧∀ p ∈ X.pn ++ pins,p.1 ≠ b) :
  Inv X pins σ H' { s with heap:=h',gens:=g',drawn:=d',toks:=t' }:=by
 obtain ⟨m,⟨o,es,ep,ho,r⟩,_⟩:=id I.loc
 obtain ⟨sl,hL⟩:=u.any ho I.free fun z => (hch _ z).2.1 rfl
 exact I.step (ch:=ch) hch (fun b o hL hb hc e n => u.keep b o e n (fun z => (List.mem_cons.mp (I.stkSub b z)).elim hL hb) hc) (fun b o _ _ hc e n => u.any e n hc) (fun b o hc e n => u.free b o e n hc) (fun b o hc e => u.there b o e hc) u.tups u.frzs u.tbls (fun m' hm => by
  obtain ⟨o',es',ep',ho',r'⟩:=hm
  rw [ho] at ho'; cases ho'
  exact ⟨_,es',ep',hL,r'⟩) hok hg
theorem Inv.turned {t':Nat}{it:Addr} (I:Inv X pins σ H s) (k:∀ b o,b ≠ it->s.heap.get? b=some o->h'.get? b=some o) (hn:H it=none) (hL:it ≠ X.env.locals)
  (h1:it ∈ X.ex ∨ X.s₀.heap.objs.size ≤ it) (h2:∀ x c,X.env.cells.lookup x=some c->c ≠ it) (h3:∀ p ∈ X.pn ++ pins,p.1 ≠ it):Inv X pins σ H { s with heap:=h',toks:=t' }:=by
 have nit:∀ b u,H b=some u->b ≠ it:=fun b u e z => by rw [z,hn] at e; cases e
 refine I.step (g':=s.gens) (d':=s.drawn) (ch:=[it]) (fun b hb => ?_) (fun b o _ _ hc e _ => k b o (fun z => hc (by simp [z])) e) (fun b o _ _ hc e _ => ⟨o.slots,k b o (fun z => hc (by simp [z])) e⟩) (fun _ _ _ _ n => n)
  (fun b o hc e => ⟨o,k b o (fun z => hc (by simp [z])) e⟩) (fun _ _ e => e) (fun _ _ _ e => e) (fun b ps e => ⟨#[],by rw [e]; simp⟩) (fun m hm => ?_) (fun b u e => ?_) I.bare
 ·have e:b=it:=by simpa using hb
  subst e
  exact ⟨h1,hL,h2,h3⟩
 ·obtain ⟨o,es,ep,ho,r⟩:=hm
  exact ⟨o,es,ep,k _ o (Ne.symm hL) ho,r⟩
 ·refine (I.hok b u e).stay (fun c v hc q => k c v ?_ q) (fun _ q => q) fun _ _ q => q
  rcases hc with z | z
  ·rw [z]; exact nit b u e
  ·exact nit c _ z
theorem Inv.tok (I:Inv X pins σ H s) (t:Nat):Inv X pins σ H { s with toks:=t }:=I.un (h':=s.heap) (t':=t) Un.refl I.hok
theorem Inv.kept {t':Nat} (I:Inv X pins σ H s) (k:∀ b u,s.heap.get? b=some u->h'.get? b=some u):Inv X pins σ H { s with heap:=h',toks:=t' }:=I.un (Un.kept k) (I.hok.kept k)
theorem Inv.laid {a:Addr}{o:HO}{t':Nat} (I:Inv X pins σ H s) (k:∀ b u,s.heap.get? b=some u->h'.get? b=some u) (hp:s.heap.objs.size ≤ a) (new:ObjOk X.prog X.w (upd H a o) h' a o) :
  Inv X pins σ (upd H a o) { s with heap:=h',toks:=t' }:=I.un (Un.laid k hp (I.hok.fresh hp)) (I.hok.laid k hp new)
theorem Inv.write {x e:Addr}{o:HO}{t':Nat} (I:Inv X pins σ H s) (mu:Mut (H x)) (he:e=x ∨ H e=some (.own x)) (k:∀ b u,b ≠ e->s.heap.get? b=some u->h'.get? b=some u) (heo:∃ u,h'.get? e=some u)
  (new:ObjOk X.prog X.w (upd H x o) h' x o):Inv X pins σ (upd H x o) { s with heap:=h',toks:=t' }:=I.un (Un.write mu he k heo) (I.hok.write mu he k heo new)
theorem Inv.pins_of {pins':List (Addr × Obj)} (I:Inv X pins σ H s) (h:∀ p ∈ pins',s.heap.get? p.1=some p.2∧H p.1=none∧p.1 ≠ X.env.locals∧p.1 ∉ X.fs∧∀ v,p.2.data ≠ .cell v):Inv X pins' σ H s :=
 ⟨I.ok,I.os,I.bare,I.base,I.loc,I.cell,I.free,I.freeC,fun p hp => (List.mem_append.mp hp).elim (fun z => I.pin p (List.mem_append_left _ z)) (h p),I.hok,I.len⟩
theorem jqC {N:List Str} (hN:N.Nodup) {i j:Nat}{x:Str} (a:N[i]?=some x) (b:N[j]?=some x):i=j:=by
 obtain ⟨h1,e1⟩:=List.getElem?_eq_some_iff.mp a
 obtain ⟨h2,e2⟩:=List.getElem?_eq_some_iff.mp b
 exact (List.getElem_inj hN).mp (e1.trans e2.symm)
theorem iqa {M:Model}{A:Around}{E:Value->Shared->Prop}{i:Nat}{x:Str}{v:V}{u:Value}{Q:Unit->Shared->Prop} (I:Inv X pins σ H s) (hN:X.N.Nodup) (hi:X.N[i]?=some x) (hx:Loc X.env.scope x) (r:RelV v u)
  (h:∀ s',Inv X pins (σ.set i (some v)) H s'->(∃ a,Heap.SameBut a s.heap s'.heap∧(a=X.env.locals ∨ X.env.cells.lookup x=some a))->Q () s') (hf:X.fn x=true ∨ X.env.scope.names.lookup x=some .local:=by first | exact .inl rfl | exact .inr rfl | assumption):wpAny M A (storeName X.env x u) Q E s:=by
 obtain ⟨m,hn,hl⟩:=id I.loc
 have hcls:(X.env.scope.kind == .class || (X.env.scope.kind == .module && X.env.locals != X.env.globals))=false:=by rw [I.ok.kind]; rfl
 have hiσ:i < σ.length:=by rw [I.len]; exact (List.getElem?_eq_some_iff.mp hi).1
 have cne:=I.cne
 have tracked:∀ {a:Addr}{h':Heap},(∃ o,s.heap.get? a=some o∧H a=none)->Heap.SameBut a s.heap h'->HOk X.prog X.w H h':=fun {a h'} ha hs b ob e => by
  obtain ⟨_,_,hfree⟩:=ha
  refine (I.hok b ob e).stay (fun c w' hc q => (hs.2 c ?_).trans q) (fun _ q => q) fun _ _ q => q
  rintro rfl
  rcases hc with rfl | hc
  ·rw [hfree] at e; cases e
  ·rw [hfree] at hc; cases hc
 rcases hx with hk | hk
 ·refine wpAny_storeName_local hk hn (fun h' hn' hs => ?_) hcls
  obtain ⟨oL,_,_,hoL,_⟩:=id hn
  refine h _ ⟨I.ok,I.os,I.bare,⟨fun b o e n hb hx => ?_,fun b o e n hb hx => ?_,I.base.free,fun b o e hx => ?_,I.base.tups,I.base.frzs,I.base.tbls⟩,⟨_,hn',fun j y v' e1 e2 e3 => ?_⟩,fun y c e => ?_,I.free,I.freeC,fun p hp => ?_,tracked ⟨oL,hoL,I.free⟩ hs,by simpa using I.len⟩ ⟨_,hs,.inl rfl⟩
  ·exact (hs.2 b (Nat.ne_of_lt (Nat.lt_of_lt_of_le (Heap.lt_size e) I.ok.above))).trans (I.base.keep b o e n hb hx)
  ·obtain ⟨sl,e1⟩:=I.base.slot b o e n hb hx
   exact ⟨sl,(hs.2 b (Nat.ne_of_lt (Nat.lt_of_lt_of_le (Heap.lt_size e) I.ok.above))).trans e1⟩
  ·obtain ⟨o',e1⟩:=I.base.there b o e hx
   exact ⟨o',(hs.2 b (Nat.ne_of_lt (Nat.lt_of_lt_of_le (Heap.lt_size e) I.ok.above))).trans e1⟩
  ·by_cases hj:j=i
   ·subst hj
    rw [hi] at e1; cases e1
    rw [List.getElem?_set_self hiσ] at e2
    cases e2
    exact ⟨u,r,.inl ⟨hk,by simp⟩⟩
   ·rw [List.getElem?_set_ne (Ne.symm hj)] at e2
    obtain ⟨u',r',q⟩:=hl j y v' e1 e2 e3
    refine ⟨u',r',?_⟩
    rcases q with ⟨k,e⟩ | ⟨k,c,e,z⟩
    ·refine .inl ⟨k,?_⟩
     have:y ≠ x:=fun e => hj (jqC hN e1 (e ▸ hi))
     simp [this,e]
    ·exact .inr ⟨k,c,e,z.sameBut hs (cne y c e)⟩
  ·obtain ⟨w',z⟩:=I.cell y c e
   exact ⟨w',z.sameBut hs (cne y c e)⟩
  ·obtain ⟨e,n,ne,nf,d⟩:=I.pin p hp
   exact ⟨(hs.2 p.1 ne).trans e,n,ne,nf,d⟩
 ·have hfn:X.fn x=true:=by
   rcases hf with z | z
   ·exact z
   ·rw [z] at hk; cases hk
  obtain ⟨c,hc⟩:=I.ok.has x (.inl hk)
  obtain ⟨w',z⟩:=I.cell x c hc
  refine wpAny_storeName_cell I.ok.kind hk hc z (fun h' hc' hs => ?_)
  obtain ⟨oc,hoc,hocd⟩:=id z
  refine h { s with heap:=h' } ⟨I.ok,I.os,I.bare,⟨fun b o e n hb hx => ?_,fun b o e n hb hx => ?_,I.base.free,fun b o e hx => ?_,I.base.tups,I.base.frzs,I.base.tbls⟩,⟨m,hn.sameBut hs (Ne.symm (cne x c hc)),fun j y v' e1 e2 e3 => ?_⟩,fun y c' e => ?_,I.free,I.freeC,fun p hp => ?_,tracked ⟨oc,hoc,I.freeC x c hc⟩ hs,by simpa using I.len⟩ ⟨c,hs,.inr hc⟩
  ·exact (hs.2 b (Nat.ne_of_lt (Nat.lt_of_lt_of_le (Heap.lt_size e) (I.ok.cab x c hfn hc)))).trans (I.base.keep b o e n hb hx)
  ·obtain ⟨sl,e1⟩:=I.base.slot b o e n hb hx
   exact ⟨sl,(hs.2 b (Nat.ne_of_lt (Nat.lt_of_lt_of_le (Heap.lt_size e) (I.ok.cab x c hfn hc)))).trans e1⟩
  ·obtain ⟨o',e1⟩:=I.base.there b o e hx
   exact ⟨o',(hs.2 b (Nat.ne_of_lt (Nat.lt_of_lt_of_le (Heap.lt_size e) (I.ok.cab x c hfn hc)))).trans e1⟩
  ·by_cases hj:j=i
   ·subst hj
    rw [hi] at e1; cases e1
    rw [List.getElem?_set_self hiσ] at e2
    cases e2
    exact ⟨u,r,.inr ⟨.inl hk,c,hc,hc'⟩⟩
   ·rw [List.getElem?_set_ne (Ne.symm hj)] at e2
    obtain ⟨u',r',q⟩:=hl j y v' e1 e2 e3
    refine ⟨u',r',?_⟩
    rcases q with q | ⟨k,c',e,z'⟩
    ·exact .inl q
    ·refine .inr ⟨k,c',e,z'.sameBut hs ?_⟩
     rintro rfl
     exact hj (jqC hN e1 (I.ok.inj _ _ _ e hc ▸ hi))
  ·by_cases hcc:c'=c
   ·subst hcc; exact ⟨_,hc'⟩
   ·obtain ⟨w2,z2⟩:=I.cell y c' e
    exact ⟨w2,z2.sameBut hs hcc⟩
  ·obtain ⟨e,n,ne,nf,d⟩:=I.pin p hp
   refine ⟨(hs.2 p.1 ?_).trans e,n,ne,nf,d⟩
   intro q
   rw [q,hoc] at e
   have q':oc=p.2:=Option.some.inj e
   exact d w' (by rw [<- q']; exact hocd)
theorem hqy {M:Model}{A:Around}{E:Value->Shared->Prop}{i:Nat}{x:Str}{v:V}{u:Value}{Q:Unit->Shared->Prop} (I:Inv X pins σ H s) (hN:X.N.Nodup) (hi:X.N[i]?=some x) (hx:Loc X.env.scope x) (r:RelV v u)
  (h:∀ s',Inv X pins (σ.set i (some v)) H s'->Q () s') (hf:X.fn x=true ∨ X.env.scope.names.lookup x=some .local:=by first | exact .inl rfl | exact .inr rfl | assumption):wpAny M A (storeName X.env x u) Q E s :=
 iqa I hN hi hx r (fun s' I' _ => h s' I') hf
theorem Inv.call' {s':Shared}{ch:List Addr} (I:Inv X pins σ H s) (ho:s'.os=s.os) (u:Un (frs X.stack) ch H H' s.heap s'.heap) (hok:HOk X.prog X.w H' s'.heap) (hg:AllBare s'.gens)
  (hch:∀ b ∈ ch,(b ∈ X.ex ∨ X.s₀.heap.objs.size ≤ b)∧b ≠ X.env.locals∧(∀ x c,X.env.cells.lookup x=some c->c ≠ b)∧∀ p ∈ X.pn ++ pins,p.1 ≠ b):Inv X pins σ H' s':=by
 obtain ⟨h',g',d',t',o'⟩:=s'
 have e:o'=s.os:=ho
 subst e
 exact I.call (g':=g') (t':=t') (d':=d') u hok hg hch
end
abbrev XK:=Value->Option Addr->Hp->Prop
abbrev St:=List (Option V)
abbrev VK:=V->Hp->Prop
abbrev TE:=St->Hp->VK->Prop
abbrev TT:=St->Hp->(Bool->Hp->Prop)->Prop
abbrev TA:=St->Hp->(List V->Hp->Prop)->Prop
structure Ends where
 nx:St->Hp->Prop
 rt:VK
 bk:St->Hp->Prop:=fun _ _ => False
 ct:St->Hp->Prop:=fun _ _ => False
abbrev TS:=Ends->St->Hp->Prop
def EP (X:Cx) (pins:List (Addr × Obj)) (σ:St) (Q:VK) (u:Value) (s':Shared):Prop:=∃ v H',Inv X pins σ H' s'∧RelV v u∧Q v H'
def TP (X:Cx) (pins:List (Addr × Obj)) (σ:St) (Q:Bool->Hp->Prop) (b:Bool) (s':Shared):Prop:=∃ H',Inv X pins σ H' s'∧Q b H'
def AP (X:Cx) (pins:List (Addr × Obj)) (σ:St) (Q:List V->Hp->Prop) (us:List Value) (s':Shared):Prop:=∃ vs H',Inv X pins σ H' s'∧Vals vs us∧Q vs H'
def SP (X:Cx) (pins:List (Addr × Obj)) (D:Ends) (f:Flow) (s':Shared):Prop :=
 match f with
 | .next => ∃ σ' H',Inv X pins σ' H' s'∧D.nx σ' H'
 | .brk => ∃ σ' H',Inv X pins σ' H' s'∧D.bk σ' H'
 | .cont => ∃ σ' H',Inv X pins σ' H' s'∧D.ct σ' H'
 | .ret u => ∃ v σ' H',Inv X pins σ' H' s'∧RelV v u∧D.rt v H'
def PE (X:Cx) (e:Expr) (t:TE):Prop :=
 ∀ (pins:List (Addr × Obj)) (s:Shared) (σ:St) (H:Hp) (Q:VK),Inv X pins σ H s->t σ H Q->wpAny (model X.prog X.w) X.A (eval e X.env) (EP X pins σ Q) X.xe s
def PT (X:Cx) (e:Expr) (t:TT):Prop :=
 ∀ (pins:List (Addr × Obj)) (s:Shared) (σ:St) (H:Hp) (Q:Bool->Hp->Prop),Inv X pins σ H s->t σ H Q->wpAny (model X.prog X.w) X.A (isTrue e X.env (eval e X.env)) (TP X pins σ Q) X.xe s
def PW (X:Cx) (e:Expr) (t:TT):Prop :=
 ∀ (whole:Sem Value) (pins:List (Addr × Obj)) (s:Shared) (σ:St) (H:Hp) (Q:Bool->Hp->Prop),Inv X pins σ H s->t σ H Q->wpAny (model X.prog X.w) X.A (isTrue e X.env whole) (TP X pins σ Q) X.xe s
theorem PW.pt {X:Cx}{e:Expr}{t:TT} (h:PW X e t):PT X e t:=h _
def PA (X:Cx) (es:List Expr) (t:TA):Prop :=
 ∀ (pos:Pos) (pins:List (Addr × Obj)) (s:Shared) (σ:St) (H:Hp) (Q:List V->Hp->Prop),Inv X pins σ H s->t σ H Q->wpAny (model X.prog X.w) X.A (spliced (backTo pos (starEach es X.env))) (AP X pins σ Q) X.xe s
def PS (X:Cx) (st:Stmt) (t:TS):Prop :=
 ∀ (pins:List (Addr × Obj)) (s:Shared) (σ:St) (H:Hp) (D:Ends),Inv X pins σ H s->t D σ H->wpAny (model X.prog X.w) X.A (exec st X.env) (SP X pins D) X.xe s
def PSs (X:Cx) (st:List Stmt) (t:TS):Prop :=
 ∀ (pins:List (Addr × Obj)) (s:Shared) (σ:St) (H:Hp) (D:Ends),Inv X pins σ H s->t D σ H->wpAny (model X.prog X.w) X.A (execs st X.env) (SP X pins D) X.xe s
theorem thn {α:Type}{t:Sem α}{Q Q':α->Shared->Prop}{M:Model}{A:Around}{E:Value->Shared->Prop}{s:Shared} (h:wpAny M A t Q E s) (hQ:∀ a s,Q a s->Q' a s):wpAny M A t Q' E s:=wpAny_mono h hQ fun _ _ x => x
section
variable {X:Cx}
theorem bin {a b:Expr}{ta tb:TE} (ha:PE X a ta) (hb:PE X b tb) {pins:List (Addr × Obj)}{s:Shared}{σ:St}{H:Hp}{R:V->V->Hp->Prop} (I:Inv X pins σ H s) (h:ta σ H fun x H1 => tb σ H1 fun y H2 => R x y H2)
  {α:Type}{Q:α->Shared->Prop}{f:Value->Value->Sem α}
  (hf:∀ v u s2 x y H2,Inv X pins σ H2 s2->RelV x v->RelV y u->R x y H2->wpAny (model X.prog X.w) X.A (f v u) Q X.xe s2) :
  wpAny (model X.prog X.w) X.A (eval a X.env) (fun v s₁ => wpAny (model X.prog X.w) X.A (eval b X.env) (fun u s₂ => wpAny (model X.prog X.w) X.A (f v u) Q X.xe s₂) X.xe s₁) X.xe s:=by
 refine thn (ha pins s σ H _ I h) fun v s1 W' => ?_
 obtain ⟨x,H1,I1,r1,q1⟩:=W'
 refine thn (hb pins s1 σ H1 _ I1 q1) fun u s2 W' => ?_
 obtain ⟨y,H2,I2,r2,q2⟩:=W'
 exact hf v u s2 x y H2 I2 r1 r2 q2
def tVar (i:Nat):TE:=fun σ H Q => ∃ v,σ[i]?=some (some v)∧Q v H
def tC (v:V):TE:=fun _ H Q => Q v H
theorem tq7 {i:Nat}{x:Str}{pos:Pos} (hN:X.N[i]?=some x) (hv:Vis X.env.scope x) (hd:(x == ("__debug__" : Str))=false:=by decide) (hcd:(x == ("__classdict__" : Str))=false:=by decide):PE X (.Name x pos) (tVar i):=by
 intro pins s σ H Q I h
 obtain ⟨v,e,h⟩:=h
 obtain ⟨m,hn,hl⟩:=I.loc
 obtain ⟨u,r,l⟩:=hl i x v hN e hv
 have fin:EP X pins σ Q u s:=⟨v,H,I,r,h⟩
 rcases l with ⟨hk,hm⟩ | ⟨hk,c,hc,hcell⟩
 ·exact wpAny_Name (wpAny_loadName_local I.ok.kind hk hn hm fin) hd
 ·rcases hk with hk | hk
  ·exact wpAny_Name (wpAny_loadName_cell I.ok.kind hk hc hcell fin) hd
  ·exact wpAny_Name (wpAny_loadName_free I.ok.kind hk hc hcell fin hcd) hd
theorem aqc {i j pos}:PE X (.Constant (.int i) j pos) (tC (.int i)):=fun _ _ _ H _ I h => wpAny_Constant_int ⟨.int i,H,I.tok _,⟨_,rfl⟩,h⟩
theorem hq4 {b j pos}:PE X (.Constant (.bool b) j pos) (tC (.bl b)):=fun _ _ _ H _ I h => Constant_bool ⟨.bl b,H,I,rfl,h⟩
theorem gq7 {j pos}:PE X (.Constant .none j pos) (tC .non):=fun _ _ _ H _ I h => Constant_none ⟨.non,H,I,rfl,h⟩
theorem aqr {x j pos}:PE X (.Constant (.str x) j pos) (tC (.str x)):=fun _ _ _ H _ I h => Calls.Constant_str ⟨.str x,H,I.tok _,⟨_,rfl⟩,h⟩
def Gl (X:Cx) (x:Str):Prop:=X.env.kindOf x=some .globalImplicit
theorem eqL {E:Value->Shared->Prop}{pins:List (Addr × Obj)}{s:Shared}{σ:St}{H:Hp}{x:Str}{u:Value}{pos:Pos}{Q:Value->Shared->Prop} (I:Inv X pins σ H s) (hg:Gl X x) (hm:X.mg x=some u) (h:Q u s)
  (hd:(x == ("__debug__" : Str))=false:=by decide):wpAny (model X.prog X.w) X.A (eval (.Name x pos) X.env) Q E s :=
 Calls.Name_function_global I.ok.kind hg (Calls.loadGlobal_global (by rw [I.ok.glob]; exact I.mod.glob.keeps I.bk) hm h) hd
theorem iqb {E:Value->Shared->Prop}{pins:List (Addr × Obj)}{s:Shared}{σ:St}{H:Hp}{x:Str}{u:Value}{pos:Pos}{Q:Value->Shared->Prop} (I:Inv X pins σ H s) (hg:Gl X x) (hm:X.mg x=none) (hv:bootBuiltins x=some u) (h:Q u s)
  (hn:x ≠ "__name__" := by decide) (hd:(x == ("__debug__" : Str))=false:=by decide):wpAny (model X.prog X.w) X.A (eval (.Name x pos) X.env) Q E s:=by
 obtain ⟨mb,h1,h2⟩:=I.mod.blt
 exact Calls.Name_function_global I.ok.kind hg (Calls.loadGlobal_builtin (by rw [I.ok.glob]; exact I.mod.glob.keeps I.bk) hm (by rw [I.ok.blt]; exact h1.keeps I.bk) ((h2 x hn).trans hv) h) hd
theorem aqO {x:Str}{v:V}{u:Value}{pos:Pos} (hg:Gl X x) (hm:X.mg x=some u) (r:RelV v u) (hd:(x == ("__debug__" : Str))=false:=by decide):PE X (.Name x pos) (tC v) :=
 fun _ _ _ H _ I h => eqL I hg hm ⟨v,H,I,r,h⟩ hd
theorem gqC {x:Str}{v:V}{u:Value}{pos:Pos} (hg:Gl X x) (hm:X.mg x=none) (hv:bootBuiltins x=some u) (r:RelV v u) (hn:x ≠ "__name__" := by decide) (hd:(x == ("__debug__" : Str))=false:=by decide):PE X (.Name x pos) (tC v) :=
 fun _ _ _ H _ I h => iqb I hg hm hv ⟨v,H,I,r,h⟩ hn hd
variable {a b:Expr}{ta tb:TE}{pos:Pos}
def PC (X:Cx) (op:CmpOp) (a b:Expr) (t:TE):Prop :=
 ∀ (pins:List (Addr × Obj)) (s:Shared) (σ:St) (H:Hp) (Q:VK),Inv X pins σ H s->t σ H Q ->
  wpAny (model X.prog X.w) X.A (eval a X.env) (fun v s₁ => wpAny (model X.prog X.w) X.A (eval b X.env) (fun u s₂ => wpAny (model X.prog X.w) X.A (compareOp op v u) (EP X pins σ Q) X.xe s₂) X.xe s₁) X.xe s
def tB (t:TE):TT:=fun σ H Q => t σ H fun x H1 => ∃ c,x=.bl c∧Q c H1
theorem uq9 {op:CmpOp}{t:TE} (h:PC X op a b t) (h1:behindInMarks op b=false:=by first | exact nobehind _ (by decide) (by decide) | rfl):PT X (.Compare a [op] [b] pos) (tB t):=by
 intro pins s σ H Q I hw
 refine wpAny_isTrue_Compare1 (thn (h pins s σ H _ I hw) fun v s1 h1 => thn h1 fun u s2 h2 => thn h2 fun c s3 W' => ?_) h1
 obtain ⟨x,H1,I1,r1,q1⟩:=W'
 obtain ⟨d,rfl,q⟩:=q1
 cases r1
 exact wpAny_truthy_bool ⟨H1,I1,q⟩
theorem dqF {e:Expr}{t:TE} (h:PE X e t) (he:∀ whole,isTrue e X.env whole=(do let v <- whole; standAt e.pos; holding [v] (truthy v)):=by intro _; rfl):PT X e (tB t):=by
 intro pins s σ H Q I hw
 refine isTrue_plain (thn (h pins s σ H _ I hw) fun v s1 W' => ?_) (he _)
 obtain ⟨x,H1,I1,r1,q1⟩:=W'
 obtain ⟨d,rfl,q⟩:=q1
 cases r1
 exact wpAny_truthy_bool ⟨H1,I1,q⟩
variable {tA tB':TT}{rest:List Expr}
def tAnd (t u:TT):TT:=fun σ H Q => t σ H fun c H1 => if c=true then u σ H1 Q else Q false H1
def tOr (t u:TT):TT:=fun σ H Q => t σ H fun c H1 => if c=true then Q true H1 else u σ H1 Q
def tNot (t:TT):TT:=fun σ H Q => t σ H fun c H1 => Q (!c) H1
theorem eqE (ha:PT X a tA):PW X (.BoolOp .And [a] pos) tA:=by
 intro wh pins s σ H Q I h
 refine isTrue_and (thn (ha pins s σ H Q I h) fun c s1 e => ?_)
 cases c with
 | true => exact isTrue_and_nil e
 | false => exact e
theorem hqY (ha:PT X a tA):PW X (.BoolOp .Or [a] pos) tA:=by
 intro wh pins s σ H Q I h
 refine isTrue_or (thn (ha pins s σ H Q I h) fun c s1 e => ?_)
 cases c with
 | false => exact isTrue_or_nil e
 | true => exact e
theorem hqg (ha:PT X a tA) (hb:PW X (.BoolOp .And (b :: rest) pos) tB'):PW X (.BoolOp .And (a :: b :: rest) pos) (tAnd tA tB'):=by
 intro wh pins s σ H Q I h
 refine isTrue_and (thn (ha pins s σ H _ I h) fun c s1 W' => ?_)
 obtain ⟨H1,I1,q1⟩:=W'
 cases c with
 | true => exact hb wh pins s1 σ H1 Q I1 q1
 | false => exact ⟨H1,I1,q1⟩
theorem kq1 (ha:PT X a tA) (hb:PW X (.BoolOp .Or (b :: rest) pos) tB'):PW X (.BoolOp .Or (a :: b :: rest) pos) (tOr tA tB'):=by
 intro wh pins s σ H Q I h
 refine isTrue_or (thn (ha pins s σ H _ I h) fun c s1 W' => ?_)
 obtain ⟨H1,I1,q1⟩:=W'
 cases c with
 | true => exact ⟨H1,I1,q1⟩
 | false => exact hb wh pins s1 σ H1 Q I1 q1
theorem hqh (ha:PT X a tA):PT X (.UnaryOp .Not a pos) (tNot tA):=by
 intro pins s σ H Q I h
 exact isTrue_not (ha pins s σ H (fun c H1 => Q (!c) H1) I h)
def tAndV (ta tb:TE):TE:=fun σ H Q => ta σ H fun x H1 => ∃ c,x=.bl c∧if c=true then tb σ H1 Q else Q (.bl false) H1
def tOrV (ta tb:TE):TE:=fun σ H Q => ta σ H fun x H1 => ∃ c,x=.bl c∧if c=true then Q (.bl true) H1 else tb σ H1 Q
def tNotV (ta:TE):TE:=fun σ H Q => ta σ H fun x H1 => ∃ c,x=.bl c∧Q (.bl (!c)) H1
theorem cqu {op}{t:TE} (h:PE X a t):PE X (.BoolOp op [a] pos) t:=fun pins s σ H Q I hw => BoolOp_one (h pins s σ H Q I hw)
theorem dqe (ha:PE X a ta) (hb:PE X (.BoolOp .And (b :: rest) pos) tb):PE X (.BoolOp .And (a :: b :: rest) pos) (tAndV ta tb):=by
 intro pins s σ H Q I h
 refine BoolOp_and (thn (ha pins s σ H _ I h) fun v s1 W' => ?_)
 obtain ⟨x,H1,I1,r1,q1⟩:=W'
 obtain ⟨c,rfl,q1⟩:=q1
 cases r1
 refine wpAny_truthy_bool ?_
 cases c with
 | true => exact hb pins s1 σ H1 Q I1 q1
 | false => exact ⟨.bl false,H1,I1,rfl,q1⟩
theorem pq1 (ha:PE X a ta) (hb:PE X (.BoolOp .Or (b :: rest) pos) tb):PE X (.BoolOp .Or (a :: b :: rest) pos) (tOrV ta tb):=by
 intro pins s σ H Q I h
 refine BoolOp_or (thn (ha pins s σ H _ I h) fun v s1 W' => ?_)
 obtain ⟨x,H1,I1,r1,q1⟩:=W'
 obtain ⟨c,rfl,q1⟩:=q1
 cases r1
 refine wpAny_truthy_bool ?_
 cases c with
 | false => exact hb pins s1 σ H1 Q I1 q1
 | true => exact ⟨.bl true,H1,I1,rfl,q1⟩
theorem oq4 (ha:PE X a ta):PE X (.UnaryOp .Not a pos) (tNotV ta):=by
 intro pins s σ H Q I h
 refine UnaryOp_ (thn (ha pins s σ H _ I h) fun v s1 W' => ?_)
 obtain ⟨x,H1,I1,r1,q1⟩:=W'
 obtain ⟨c,rfl,q1⟩:=q1
 cases r1
 exact not_of (wpAny_truthy_bool ⟨.bl (!c),H1,I1,rfl,q1⟩)
def tIf (t:TT) (ta tb:TE):TE:=fun σ H Q => t σ H fun c H1 => if c=true then ta σ H1 Q else tb σ H1 Q
theorem fql {c:Expr} (hc:PT X c tA) (ha:PE X a ta) (hb:PE X b tb):PE X (.IfExp c a b pos) (tIf tA ta tb):=by
 intro pins s σ H Q I h
 refine wpAny_IfExp (thn (hc pins s σ H _ I h) fun d s1 W' => ?_)
 obtain ⟨H1,I1,q1⟩:=W'
 cases d with
 | true => exact ha pins s1 σ H1 Q I1 q1
 | false => exact hb pins s1 σ H1 Q I1 q1
end
def SqL (K:PySem.W.Frag) (H:Hp) (a:Addr) (xs:List V):Prop :=
 Rd H a (.lst xs) ∨
  ∃ (o:Obj) (its:Array Value) (n:Nat),K.lookup a=some o∧o.cls=.type "list" ∧ o.dict=none∧o.data=.seq its n∧its.size ≤ sizeLine∧Vals xs its.toList
def SqT (K:PySem.W.Frag) (H:Hp) (a:Addr) (xs:List V):Prop :=
 Rd H a (.tup xs) ∨
  ∃ (o:Obj) (its:Array Value) (n:Nat),K.lookup a=some o∧o.cls=.type "tuple" ∧ o.data=.seq its n∧its.size ≤ sizeLine∧Vals xs its.toList
def absV:Value->Option V
 | .none => some .non
 | .bool b => some (.bl b)
 | .int i _ => some (.int i)
 | .str x _ => some (.str x)
 | .bytes b _ => some (.byt b)
 | .float b _ => some (.flt b)
 | .ref a => some (.ref a)
 | .type n => some (.ty n)
 | _ => none
theorem RelV.abs {x:V}{u:Value} (r:RelV x u):absV u=some x:=by
 cases x with
 | non => cases r; rfl
 | bl _ => cases r; rfl
 | int _ => obtain ⟨t,rfl⟩:=r; rfl
 | str _ => obtain ⟨t,rfl⟩:=r; rfl
 | byt _ => obtain ⟨t,rfl⟩:=r; rfl
 | flt _ => obtain ⟨t,rfl⟩:=r; rfl
 | ref _ => cases r; rfl
 | ty _ => cases r; rfl
theorem RelV.inj {x y:V}{u:Value} (r:RelV x u) (q:RelV y u):x=y:=Option.some.inj (r.abs.symm.trans q.abs)
theorem Vals.inj:∀ {xs ys:List V}{us:List Value},Vals xs us->Vals ys us->xs=ys
 | _,_,_,.nil,.nil => rfl
 | _,_,_,.cons r t,.cons r' t' => by rw [r.inj r',Vals.inj t t']
section
variable {X:Cx}{pins:List (Addr × Obj)}{σ:St}{H:Hp}{s:Shared}{a:Addr}{xs ys:List V}
theorem SqL.of {K:PySem.W.Frag} (h:H a=some (.lst xs)):SqL K H a xs:=.inl (.inl h)
theorem SqT.of {K:PySem.W.Frag} (h:H a=some (.tup xs)):SqT K H a xs:=.inl (.inl h)
theorem Inv.list (I:Inv X pins σ H s) (h:SqL X.K H a xs):∃ its:List Value,Vals xs its∧PlainL s.heap a its.toArray∧xs.length ≤ sizeLine:=by
 rcases h with h | ⟨o,its,n,hk,hc,hd,hs,hz,r⟩
 ·obtain ⟨z,its,n,r,e⟩:=h.ok I.hok
  exact ⟨its,r,⟨_,n,e,rfl,rfl,rfl⟩,z⟩
 ·refine ⟨its.toList,r,⟨o,n,I.kIn a o hk,hc,hd,by simpa using hs⟩,?_⟩
  have e:=r.length
  simp only [Array.length_toList] at e
  omega
theorem Inv.tuple (I:Inv X pins σ H s) (h:SqT X.K H a xs):∃ its:List Value,Vals xs its∧IsTup s.heap a its.toArray∧xs.length ≤ sizeLine:=by
 rcases h with h | ⟨o,its,n,hk,hc,hs,hz,r⟩
 ·obtain ⟨z,its,r,p⟩:=h.ok I.hok
  exact ⟨its,r,p,z⟩
 ·refine ⟨its.toList,r,⟨o,I.kIn a o hk,hc,n,by simpa using hs⟩,?_⟩
  have e:=r.length
  simp only [Array.length_toList] at e
  omega
theorem Inv.list_inj (I:Inv X pins σ H s) (h:SqL X.K H a xs) (h':SqL X.K H a ys):xs=ys:=by
 obtain ⟨its,r,⟨o,n,e,_,_,d⟩,_⟩:=I.list h
 obtain ⟨its',r',⟨o',n',e',_,_,d'⟩,_⟩:=I.list h'
 rw [e] at e'; cases e'
 rw [d] at d'
 injection d' with d1 _
 have:its=its':=by simpa using congrArg Array.toList d1
 subst this
 exact r.inj r'
theorem Inv.tuple_inj (I:Inv X pins σ H s) (h:SqT X.K H a xs) (h':SqT X.K H a ys):xs=ys:=by
 obtain ⟨its,r,⟨o,e,_,n,d⟩,_⟩:=I.tuple h
 obtain ⟨its',r',⟨o',e',_,n',d'⟩,_⟩:=I.tuple h'
 rw [e] at e'; cases e'
 rw [d] at d'
 injection d' with d1 _
 have:its=its':=by simpa using congrArg Array.toList d1
 subst this
 exact r.inj r'
end
abbrev Cx.wish (X:Cx) (E:Value->Shared->Prop):Cx:={ X with xe:=E }
abbrev Cx.nox (X:Cx):Cx:=X.wish fun _ _ => False
theorem Cx.Ok.wish {X:Cx} (ok:X.Ok) (E:Value->Shared->Prop):(X.wish E).Ok :=
 ⟨ok.mod,ok.kind,ok.glob,ok.blt,ok.above,ok.inj,ok.has,ok.cab,ok.hd,ok.frames,ok.stk,ok.exf,ok.bs,ok.bsz,ok.noex,ok.exfs,ok.funs,ok.frf⟩
theorem Cx.Ok.unwish {X:Cx}{E:Value->Shared->Prop} (ok:(X.wish E).Ok):X.Ok :=
 ⟨ok.mod,ok.kind,ok.glob,ok.blt,ok.above,ok.inj,ok.has,ok.cab,ok.hd,ok.frames,ok.stk,ok.exf,ok.bs,ok.bsz,ok.noex,ok.exfs,ok.funs,ok.frf⟩
section
variable {X:Cx}{pins:List (Addr × Obj)}{σ:St}{H:Hp}{s:Shared}{E:Value->Shared->Prop}
theorem Inv.wish (I:Inv X pins σ H s) (E:Value->Shared->Prop):Inv (X.wish E) pins σ H s:=⟨I.ok.wish E,I.os,I.bare,I.base,I.loc,I.cell,I.free,I.freeC,I.pin,I.hok,I.len⟩
theorem Inv.unwish (I:Inv (X.wish E) pins σ H s):Inv X pins σ H s:=⟨I.ok.unwish,I.os,I.bare,I.base,I.loc,I.cell,I.free,I.freeC,I.pin,I.hok,I.len⟩
theorem SP.unwish {D:Ends}{f:Flow}{s':Shared} (h:SP (X.wish E) pins D f s'):SP X pins D f s':=by
 cases f with
 | next => obtain ⟨σ',H',I,q⟩:=h; exact ⟨σ',H',I.unwish,q⟩
 | brk => obtain ⟨σ',H',I,q⟩:=h; exact ⟨σ',H',I.unwish,q⟩
 | cont => obtain ⟨σ',H',I,q⟩:=h; exact ⟨σ',H',I.unwish,q⟩
 | ret u => obtain ⟨v,σ',H',I,r,q⟩:=h; exact ⟨v,σ',H',I.unwish,r,q⟩
theorem PSs.nox {st:List Stmt}{t:TS} (h:PSs X.nox st t):PSs X st t:=fun pins s σ H D I hw =>
 wpAny_mono (h pins s σ H D (I.wish _) hw) (fun _ _ q => q.unwish) fun _ _ z => False.elim z
end
section
variable {X:Cx}{st:Stmt}{rest:List Stmt}{t u:TS}{e:Expr}{te:TE}{pos:Pos}
def tNext:TS:=fun D σ H => D.nx σ H
def tSeq (t u:TS):TS:=fun D σ H => t { D with nx:=u D } σ H
theorem aqw:PSs X [] tNext:=fun _ _ σ H _ I h => wpAny_execs_nil ⟨σ,H,I,h⟩
theorem aqh (h1:PS X st t) (h2:PSs X rest u):PSs X (st :: rest) (tSeq t u):=by
 intro pins s σ H D I h
 refine wpAny_execs_cons (thn (h1 pins s σ H { D with nx:=u D } I h) fun f s1 q => ?_)
 cases f with
 | next =>
  obtain ⟨σ',H',I',q⟩:=q
  exact h2 pins s1 σ' H' D I' q
 | ret v => exact q
 | brk => exact q
 | cont => exact q
theorem aqg (h1:PS X st t):PSs X [st] t:=by
 intro pins s σ H D I h
 refine wpAny_execs_cons (thn (h1 pins s σ H D I h) fun f s1 q => ?_)
 cases f with
 | next => exact wpAny_execs_nil q
 | ret v => exact q
 | brk => exact q
 | cont => exact q
def tBreak:TS:=fun D σ H => D.bk σ H
theorem Inv.quiet {pins:List (Addr × Obj)}{σ:St}{H:Hp}{s:Shared} (I:Inv X pins σ H s):interactive X.env=false:=by simp [interactive,I.ok.kind]
def tDrop (te:TE):TS:=fun D σ H => te σ H fun _ H1 => D.nx σ H1
theorem cq2 (he:PE X e te) (hs:swapsWith e none pos.line X.env=pure false:=by rfl):PS X (.Expr e pos) (tDrop te):=by
 intro pins s σ H D I h
 exact wpAny_Expr_any (thn (he pins s σ H _ I h) fun v s1 ⟨x,H1,I1,r1,q1⟩ => ⟨σ,H1,I1,q1⟩) I.quiet hs
def tRet (te:TE):TS:=fun D σ H => te σ H D.rt
theorem aqp (he:PE X e te):PS X (.Return (some e) pos) (tRet te):=by
 intro pins s σ H D I h
 exact wpAny_Return_some (thn (he pins s σ H _ I h) fun v s1 ⟨x,H1,I1,r1,q1⟩ => ⟨x,σ,H1,I1,r1,q1⟩)
def tIfS (c:TT) (t u:TS):TS:=fun D σ H => c σ H fun b H1 => if b=true then t D σ H1 else u D σ H1
theorem aqI {c:Expr}{a b:List Stmt}{tc:TT} (hc:PT X c tc) (ha:PSs X a t) (hb:PSs X b u):PS X (.If c a b pos) (tIfS tc t u):=by
 intro pins s σ H D I h
 refine wpAny_If (thn (hc pins s σ H _ I h) fun d s1 W' => ?_)
 obtain ⟨H1,I1,q1⟩:=W'
 cases d with
 | true => exact ha pins s1 σ H1 D I1 q1
 | false => exact hb pins s1 σ H1 D I1 q1
def tNever:TS:=fun _ _ _ => False
end
abbrev TG:=V->St->Hp->(St->Hp->Prop)->Prop
abbrev TGs:=List V->St->Hp->(St->Hp->Prop)->Prop
def PG (X:Cx) (target:Expr) (t:TG):Prop :=
 ∀ (pins:List (Addr × Obj)) (s:Shared) (σ:St) (H:Hp) (v:V) (u:Value) (Q:St->Hp->Prop),Inv X pins σ H s->RelV v u->t v σ H Q ->
  wpAny (model X.prog X.w) X.A (assign target X.env u) (fun _ s' => ∃ σ' H',Inv X pins σ' H' s'∧Q σ' H') X.xe s
def PGs (X:Cx) (ts:List Expr) (t:TGs):Prop :=
 ∀ (pins:List (Addr × Obj)) (s:Shared) (σ:St) (H:Hp) (vs:List V) (us:List Value) (Q:St->Hp->Prop),Inv X pins σ H s->Vals vs us->t vs σ H Q ->
  wpAny (model X.prog X.w) X.A (assignInOrder ((assignEach ts X.env).map (·.2)) us) (fun _ s' => ∃ σ' H',Inv X pins σ' H' s'∧Q σ' H') X.xe s
abbrev TSet:=V->V->V->Hp->(Hp->Prop)->Prop
def PSet (X:Cx) (t:TSet):Prop :=
 ∀ (pins:List (Addr × Obj)) (s:Shared) (σ:St) (H:Hp) (o i v:V) (ov iv u:Value) (Q:Hp->Prop),Inv X pins σ H s->RelV o ov->RelV i iv->RelV v u->t o i v H Q ->
  wpAny (model X.prog X.w) X.A (setItem ov iv u) (fun _ s' => ∃ H',Inv X pins σ H' s'∧Q H') X.xe s
section
variable {X:Cx}{pos:Pos}
def gName (i:Nat):TG:=fun v σ H Q => Q (σ.set i (some v)) H
theorem aqE {i:Nat}{x:Str} (hN:X.N.Nodup) (hi:X.N[i]?=some x) (hx:Loc X.env.scope x) (hf:X.fn x=true ∨ X.env.scope.names.lookup x=some .local:=by first | exact .inl rfl | exact .inr rfl | assumption):PG X (.Name x pos) (gName i):=by
 intro pins s σ H v u Q I r h
 exact wpAny_assign_Name (hqy I hN hi hx r (fun s' I' => ⟨_,H,I',h⟩) hf)
def gNil:TGs:=fun vs σ H Q => vs=[]∧Q σ H
def gCons (t:TG) (u:TGs):TGs:=fun vs σ H Q => ∃ v r,vs=v :: r∧t v σ H fun σ' H' => u r σ' H' Q
theorem eqp:PGs X [] gNil:=by
 intro pins s σ H vs us Q I r h
 obtain ⟨e,h⟩:=h
 subst e
 cases r
 exact assignInOrder_nil ⟨σ,H,I,h⟩
theorem aqS {e:Expr}{es:List Expr}{t:TG}{u:TGs} (h1:PG X e t) (h2:PGs X es u)
  (hs:(assignEach (e :: es) X.env).map (·.2)=assign e X.env :: (assignEach es X.env).map (·.2):=by rfl):PGs X (e :: es) (gCons t u):=by
 intro pins s σ H vs us Q I r h
 obtain ⟨v,vr,e1,h⟩:=h
 subst e1
 cases r with
 | cons r rr =>
  rw [hs]
  refine assignInOrder_cons (thn (h1 pins s σ H _ _ _ I r h) fun _ s1 W' => ?_)
  obtain ⟨σ1,H1,I1,q1⟩:=W'
  exact h2 pins s1 σ1 H1 _ _ Q I1 rr q1
def gTup (K:PySem.W.Frag) (n:Nat) (t:TGs):TG:=fun v σ H Q => ∃ a xs,v=.ref a∧SqT K H a xs∧xs.length=n∧t xs σ H Q
theorem rqe {es:List Expr}{k:Nat}{t:TGs}{n:Nat} (hc:X.calm=true) (h:PGs X es t)
  (hn:(assignEach es X.env).length=n:=by rfl) (hst:(assignEach es X.env).findIdx? (·.1)=none:=by rfl):PG X (.Tuple es k pos) (gTup X.K n t):=by
 intro pins s σ H v u Q I r hw
 obtain ⟨a,xs,e1,hq,hl,hw⟩:=hw
 subst e1
 cases r
 obtain ⟨its,rv,ht,hz⟩:=I.tuple hq
 refine assign_Tuple_tuple (I.ok.hd hc) ht (by simp [hn,<- hl,rv.length]) hst fun h' hx => ?_
 have I1:Inv X pins σ H { s with heap:=h' }:=I.kept (t':=s.toks) fun b o e => hx b o (Nat.ne_of_lt (Heap.lt_size e)) e
 exact h pins _ σ H xs _ Q I1 (by simpa using rv) hw
def gSub (to ti:TE) (t:TSet):TG:=fun v σ H Q => to σ H fun o H1 => ti σ H1 fun i H2 => t o i v H2 fun H3 => Q σ H3
theorem qq6 {o i:Expr}{to ti:TE}{t:TSet} (ho:PE X o to) (hi:PE X i ti) (hs:PSet X t)
  (ha:∀ v,assign (.Subscript o i pos) X.env v=(do
   let ov <- holding [v] (eval o X.env)
   let iv <- holding [v,ov] (eval i X.env)
   standAt pos
   holding [v,ov,iv] (setItem ov iv v)
   release [v,ov,iv] []):=by intro _; rfl):PG X (.Subscript o i pos) (gSub to ti t):=by
 intro pins s σ H v u Q I r h
 rw [ha]
 refine wpAny_bind (wpAny_holding (thn (ho pins s σ H _ I h) fun ov s1 W' => ?_))
 obtain ⟨x,H1,I1,r1,q1⟩:=W'
 refine wpAny_bind (wpAny_holding (thn (hi pins s1 σ H1 _ I1 q1) fun iv s2 W' => ?_))
 obtain ⟨y,H2,I2,r2,q2⟩:=W'
 refine wpAny_bind (wpAny_standAt (wpAny_bind (wpAny_holding (thn (hs pins s2 σ H2 x y v ov iv u _ I2 r1 r2 r q2) fun _ s3 W' => ?_))))
 obtain ⟨H3,I3,q3⟩:=W'
 exact wpAny_release ⟨σ,H3,I3,q3⟩
def tAsg (te:TE) (g:TG):TS:=fun D σ H => te σ H fun x H1 => g x σ H1 D.nx
theorem mqH {tg e:Expr}{te:TE}{g:TG} (he:PE X e te) (hg:PG X tg g) (hs:swapsWithSole [tg] e pos.line X.env=pure false:=by rfl) (hw:swappedStores [tg] e X.env=pure none:=by rfl)
  (h1:(assignEach [tg] X.env).map (·.2)=[assign tg X.env]:=by rfl):PS X (.Assign [tg] e pos) (tAsg te g):=by
 intro pins s σ H D I h
 refine wpAny_Assign_stores (thn (he pins s σ H _ I h) fun v s1 W' => ?_) hs hw
 obtain ⟨x,H1,I1,r1,q1⟩:=W'
 rw [h1]
 exact thn (hg pins s1 σ H1 x v _ I1 r1 q1) fun _ s2 q => q
theorem aqv {i:Nat}{x:Str}{e:Expr}{te:TE}{pos':Pos} (hN:X.N.Nodup) (hi:X.N[i]?=some x) (hx:Loc X.env.scope x) (he:PE X e te) (hs:swapsWith e (some (.Name x pos')) pos.line X.env=pure false:=by rfl) (hf:X.fn x=true ∨ X.env.scope.names.lookup x=some .local:=by first | exact .inl rfl | exact .inr rfl | assumption) :
  PS X (.Assign [.Name x pos'] e pos) (tAsg te (gName i)):=by
 intro pins s σ H D I h
 refine wpAny_Assign_Name (thn (he pins s σ H _ I h) fun v s1 W' => ?_) hs
 obtain ⟨y,H1,I1,r1,q1⟩:=W'
 exact hqy I1 hN hi hx r1 (fun s2 I2 => ⟨_,H1,I2,q1⟩) hf
def tPar (i j:Nat) (ta:TA):TS:=fun D σ H => ta σ H fun vs H1 => ∃ v w,vs=[v,w]∧D.nx ((σ.set i (some v)).set j (some w)) H1
end
section
variable {X:Cx}{pos:Pos}
end
structure It where
 go:Nat->Hp->Prop
 yld:Nat->Hp->V->Hp->Prop
 stop:Nat->Hp->Prop
def FpOk (X:Cx) (pins:List (Addr × Obj)) (H:Hp) (b:Addr):Prop :=
 H b=none∧b ≠ X.env.locals∧b ∉ X.fs∧(b ∈ X.ex ∨ X.s₀.heap.objs.size ≤ b)∧(∀ x c,X.env.cells.lookup x=some c->c ≠ b)∧∀ p ∈ X.pn ++ pins,p.1 ≠ b
theorem Inv.fpOk {X:Cx}{pins:List (Addr × Obj)}{σ:St}{H H':Hp}{s:Shared}{b:Addr} (I:Inv X pins σ H s) (hb:s.heap.objs.size ≤ b) (hn:H' b=none):FpOk X pins H' b:=by
 refine ⟨hn,Nat.ne_of_gt (Nat.lt_of_lt_of_le I.lt hb),I.nofs hb,.inr (Nat.le_trans I.sz hb),fun x c e z => ?_,fun p hp z => ?_⟩
 ·obtain ⟨v,q⟩:=I.cell x c e
  exact absurd (Nat.lt_of_lt_of_le q.lt (by rw [z]; exact hb)) (Nat.lt_irrefl _)
 ·exact absurd (Nat.lt_of_lt_of_le (Heap.lt_size (I.pin p hp).1) (by rw [z]; exact hb)) (Nat.lt_irrefl _)
structure Turn (P:Program) (w:World) (K:PySem.W.Frag) (tg:Expr) (J:It) (fp:List Addr) (it:Addr) (tn:Nat->Heap->Prop):Prop where
 mem:it ∈ fp
 obj:∀ i h,tn i h->∀ b ∈ fp,∃ o,h.get? b=some o∧∀ v,o.data ≠ .cell v
 keep:∀ i h h',tn i h->(∀ b ∈ fp,∀ o,h.get? b=some o->h'.get? b=some o)->tn i h'
 item:∀ (X:Cx),X.prog=P->X.w=w->X.K=K->X.calm=true->∀ (i:Nat) (pins:List (Addr × Obj)) (s:Shared) (σ:St) (H:Hp) (E:Value->Shared->Prop),Inv X pins σ H s->(∀ b ∈ fp,FpOk X pins H b)->tn i s.heap->J.go i H ->
  wpAny (model P w) X.A (pyNext (.ref it)) (fun r s1 => ∃ u,r=some u ∧
   wpAny (model P w) X.A (letOwnedTupleGo tg (.ref it) u) (fun _ s2 => ∃ x H',Inv X pins σ H' s2∧RelV x u∧J.yld i H x H'∧tn (i + 1) s2.heap∧∀ b ∈ fp,H' b=none) E s1) E s
 done:∀ (X:Cx),X.prog=P->X.w=w->X.K=K->X.calm=true->∀ (i:Nat) (pins:List (Addr × Obj)) (s:Shared) (σ:St) (H:Hp) (E:Value->Shared->Prop),Inv X pins σ H s->(∀ b ∈ fp,FpOk X pins H b)->tn i s.heap->J.stop i H ->
  wpAny (model P w) X.A (pyNext (.ref it)) (fun r s1 => r=none∧Inv X pins σ H s1) E s
 self:∀ (A:Around) (i:Nat) (s:Shared) (Q:Value->Shared->Prop) (E:Value->Shared->Prop),tn i s.heap->Q (.ref it) s->wpAny (model P w) A (pyIter (.ref it)) Q E s
abbrev TI:=St->Hp->(It->Hp->Prop)->Prop
def PIE (X:Cx) (pins:List (Addr × Obj)) (σ:St) (tg:Expr) (R:It->Hp->Prop) (itv:Value) (s2:Shared):Prop :=
 ∃ (it:Addr) (fp:List Addr) (tn:Nat->Heap->Prop) (J:It) (H':Hp),itv=.ref it∧Inv X pins σ H' s2∧Turn X.prog X.w X.K tg J fp it tn∧tn 0 s2.heap∧(∀ b ∈ fp,FpOk X pins H' b)∧R J H'
def PI (X:Cx) (tg iter:Expr) (wi:TI):Prop :=
 ∀ (pins:List (Addr × Obj)) (s:Shared) (σ:St) (H:Hp) (R:It->Hp->Prop),Inv X pins σ H s->wi σ H R ->
  wpAny (model X.prog X.w) X.A (eval iter X.env) (fun v s1 => wpAny (model X.prog X.w) X.A (pyIter v) (PIE X pins σ tg R) X.xe s1) X.xe s
theorem oqR {M:Model}{A:Around}{E:Value->Shared->Prop}{s:Shared}{tg:Expr}{it:Addr}{u:Value}{o:Obj}{n:String}{vs:Array Value}{Q:Unit->Shared->Prop} (ho:s.heap.get? it=some o) (hc:o.cls=.type n) (hd:o.data=.fields vs)
  (hn:["enumerate","zip","dict_itemiterator","dict_reverseitemiterator","odict_iterator","itertools.zip_longest","itertools.pairwise"].contains n=false) (hQ:Q () s):wpAny M A (letOwnedTupleGo tg (.ref it) u) Q E s:=by
 unfold letOwnedTupleGo
 cases tg <;> first
  | exact wpAny_pure hQ
  | (cases u <;> first
    | exact wpAny_pure hQ
    | (refine wpAny_bind (wpAny_load ho ?_)
       rw [hc,hd]
       show wpAny M A (if (["enumerate","zip","dict_itemiterator","dict_reverseitemiterator","odict_iterator","itertools.zip_longest","itertools.pairwise"].contains n && vs[0]? == some (rawInt _))=true then _ else _) Q E s
       rw [if_neg (by intro h; rw [hn,Bool.false_and] at h; cases h)]
       exact wpAny_pure hQ))
def Itl (K:PySem.W.Frag) (a:Addr):It :=
 ⟨fun i H => ∃ xs x,SqL K H a xs∧xs[i]?=some x,fun i H x H' => H'=H∧∀ xs,SqL K H a xs->xs[i]?=some x,fun i H => ∃ xs,SqL K H a xs∧xs.length ≤ i⟩
def Itt (K:PySem.W.Frag) (a:Addr):It :=
 ⟨fun i H => ∃ xs x,SqT K H a xs∧xs[i]?=some x,fun i H x H' => H'=H∧∀ xs,SqT K H a xs->xs[i]?=some x,fun i H => ∃ xs,SqT K H a xs∧xs.length ≤ i⟩
def Itr (lo:Int) (n:Nat):It:=⟨fun i _ => i < n,fun i H x H' => H'=H∧x=.int (lo + i),fun i _ => n ≤ i⟩
theorem nqM {P:Program}{w:World}{K:PySem.W.Frag}{tg:Expr} (a it:Addr):Turn P w K tg (Itl K a) [it] it (fun i h => h.IsListIter it a i) where
 mem:=by simp
 obj:=fun i h st b hb => by
  have e:b=it:=by simpa using hb
  subst e
  obtain ⟨o,e,c,d⟩:=st
  exact ⟨o,e,fun v z => by rw [d] at z; cases z⟩
 keep:=fun i h h' st k => st.at fun o e => k it (by simp) o e
 item:=by
  intro X hP hw hK hc i pins s σ H E I hf st hg
  subst hP hw hK
  obtain ⟨xs,x,hq,hx⟩:=hg
  obtain ⟨its,rv,p,hz⟩:=I.list hq
  obtain ⟨u,hu,ru⟩:=rv.get hx
  obtain ⟨f0,f1,f2,f3,f4,f5⟩:=hf it (by simp)
  refine wpAny_pyNext_list_item st p.isList (x:=u) (by simpa using hu) fun h' st' sb => ?_
  have I1:Inv X pins σ H { s with heap:=h' }:=I.turned (t':=s.toks) (fun b o hb e => (sb.2 b hb).trans e) f0 f1 f3 f4 f5
  obtain ⟨o,e,c,d⟩:=id st'
  exact ⟨u,rfl,oqR (s:={ s with heap:=h' }) e c d (by decide) ⟨x,H,I1,ru,⟨rfl,fun ys hy => by rw [I.list_inj hy hq]; exact hx⟩,st',fun b hb => (hf b hb).1⟩⟩
 done:=by
  intro X hP hw hK hc i pins s σ H E I hf st hg
  subst hP hw hK
  obtain ⟨xs,hq,hx⟩:=hg
  obtain ⟨its,rv,p,hz⟩:=I.list hq
  obtain ⟨f0,f1,f2,f3,f4,f5⟩:=hf it (by simp)
  have hl:=rv.length
  exact wpAny_pyNext_list_end (I.ok.hd hc) st p.isList (by simp; omega) fun h' eb => ⟨rfl,I.turned (t':=s.toks) (fun b o hb e => eb b o hb e) f0 f1 f3 f4 f5⟩
 self:=fun _ _ _ _ _ st h => wpAny_pyIter_listiter st h
theorem nqn {P:Program}{w:World}{K:PySem.W.Frag}{tg:Expr} (a it:Addr):Turn P w K tg (Itt K a) [it] it (fun i h => h.IsTupleIter it a i) where
 mem:=by simp
 obj:=fun i h st b hb => by
  have e:b=it:=by simpa using hb
  subst e
  obtain ⟨o,e,c,d⟩:=st
  exact ⟨o,e,fun v z => by rw [d] at z; cases z⟩
 keep:=fun i h h' st k => st.at fun o e => k it (by simp) o e
 item:=by
  intro X hP hw hK hc i pins s σ H E I hf st hg
  subst hP hw hK
  obtain ⟨xs,x,hq,hx⟩:=hg
  obtain ⟨its,rv,p,hz⟩:=I.tuple hq
  obtain ⟨u,hu,ru⟩:=rv.get hx
  obtain ⟨f0,f1,f2,f3,f4,f5⟩:=hf it (by simp)
  refine wpAny_pyNext_tuple_item st (show s.heap.IsTuple a its.toArray from p) (x:=u) (by simpa using hu) fun h' st' sb => ?_
  have I1:Inv X pins σ H { s with heap:=h' }:=I.turned (t':=s.toks) (fun b o hb e => (sb.2 b hb).trans e) f0 f1 f3 f4 f5
  obtain ⟨o,e,c,d⟩:=id st'
  exact ⟨u,rfl,oqR (s:={ s with heap:=h' }) e c d (by decide) ⟨x,H,I1,ru,⟨rfl,fun ys hy => by rw [I.tuple_inj hy hq]; exact hx⟩,st',fun b hb => (hf b hb).1⟩⟩
 done:=by
  intro X hP hw hK hc i pins s σ H E I hf st hg
  subst hP hw hK
  obtain ⟨xs,hq,hx⟩:=hg
  obtain ⟨its,rv,p,hz⟩:=I.tuple hq
  obtain ⟨f0,f1,f2,f3,f4,f5⟩:=hf it (by simp)
  have hl:=rv.length
  exact wpAny_pyNext_tuple_end (I.ok.hd hc) st (show s.heap.IsTuple a its.toArray from p) (by simp; omega) fun h' eb => ⟨rfl,I.turned (t':=s.toks) (fun b o hb e => eb b o hb e) f0 f1 f3 f4 f5⟩
 self:=fun _ _ _ _ _ st h => wpAny_pyIter_tupleiter st h
theorem nqh {P:Program}{w:World}{K:PySem.W.Frag}{tg:Expr} (it:Addr) (lo:Int) (n:Nat):Turn P w K tg (Itr lo n) [it] it (fun i h => IsRangeIter h it (lo + (i:Nat) * 1) ((n:Int) - (i:Nat)) 1) where
 mem:=by simp
 obj:=fun i h st b hb => by
  have e:b=it:=by simpa using hb
  subst e
  exact ⟨_,st,fun v z => by
   have z':Data.fields _=Data.cell v:=z
   cases z'⟩
 keep:=fun i h h' st k => k it (by simp) _ st
 item:=by
  intro X hP hw hK hc i pins s σ H E I hf st hg
  subst hP hw hK
  obtain ⟨f0,f1,f2,f3,f4,f5⟩:=hf it (by simp)
  have W:=Walks.range (prog:=X.prog) (w:=X.w) (I.ok.hd hc) it lo 1 n
  refine W.item i s _ _ hg st fun v h' tk hv st' kk => ?_
  obtain ⟨t,rfl⟩:=hv
  have I1:Inv X pins σ H { s with heap:=h',toks:=tk }:=I.turned (fun b o hb e => kk b o (by simpa using hb) e) f0 f1 f3 f4 f5
  refine ⟨_,rfl,oqR (s:={ s with heap:=h',toks:=tk }) (n := "range_iterator") st' rfl rfl (by decide) ⟨.int (lo + i),H,I1,⟨t,?_⟩,⟨rfl,rfl⟩,st',fun b hb => (hf b hb).1⟩⟩
  rw [Int.mul_one]
 done:=by
  intro X hP hw hK hc i pins s σ H E I hf st hg
  subst hP hw hK
  obtain ⟨f0,f1,f2,f3,f4,f5⟩:=hf it (by simp)
  exact wpAny_pyNext_range_end (I.ok.hd hc) st (by have:n ≤ i:=hg; omega) fun h' eb => ⟨rfl,I.turned (t':=s.toks) (fun b o hb e => eb b o hb e) f0 f1 f3 f4 f5⟩
 self:=fun _ _ _ _ _ st h => wpAny_pyIter_rangeiter st h
section
variable {X:Cx}{tg:Expr}
def iList (K:PySem.W.Frag) (tl:TE):TI:=fun σ H R => tl σ H fun x H1 => ∃ a,x=.ref a∧(∃ xs,SqL K H1 a xs)∧R (Itl K a) H1
def iTup (K:PySem.W.Frag) (tl:TE):TI:=fun σ H R => tl σ H fun x H1 => ∃ a,x=.ref a∧(∃ xs,SqT K H1 a xs)∧R (Itt K a) H1
theorem sqc {l:Expr}{tl:TE} (hl:PE X l tl):PI X tg l (iList X.K tl):=by
 intro pins s σ H R I h
 refine thn (hl pins s σ H _ I h) fun v s1 W' => ?_
 obtain ⟨x,H1,I1,r1,q1⟩:=W'
 obtain ⟨a,e,⟨xs,hq⟩,q⟩:=q1
 subst e
 cases r1
 obtain ⟨its,rv,p,hz⟩:=I1.list hq
 refine wpAny_pyIter_list p.isList ?_
 refine ⟨s1.heap.objs.size,[s1.heap.objs.size],_,_,H1,rfl,I1.kept (t':=s1.toks) fun b o e => Heap.get?_push_of_some _ e,nqM a _,⟨_,Heap.get?_push_size _ rfl,rfl,rfl⟩,fun b hb => ?_,q⟩
 have e:b=s1.heap.objs.size:=by simpa using hb
 subst e
 exact I1.fpOk (Nat.le_refl _) (I1.hok.fresh (Nat.le_refl _))
theorem tqU {l:Expr}{tl:TE} (hl:PE X l tl):PI X tg l (iTup X.K tl):=by
 intro pins s σ H R I h
 refine thn (hl pins s σ H _ I h) fun v s1 W' => ?_
 obtain ⟨x,H1,I1,r1,q1⟩:=W'
 obtain ⟨a,e,⟨xs,hq⟩,q⟩:=q1
 subst e
 cases r1
 obtain ⟨its,rv,p,hz⟩:=I1.tuple hq
 refine wpAny_pyIter_tuple (show s1.heap.IsTuple a its.toArray from p) ?_
 refine ⟨s1.heap.objs.size,[s1.heap.objs.size],_,_,H1,rfl,I1.kept (t':=s1.toks) fun b o e => Heap.get?_push_of_some _ e,nqn a _,⟨_,Heap.get?_push_size _ rfl,rfl,rfl⟩,fun b hb => ?_,q⟩
 have e:b=s1.heap.objs.size:=by simpa using hb
 subst e
 exact I1.fpOk (Nat.le_refl _) (I1.hok.fresh (Nat.le_refl _))
theorem pqT {pins:List (Addr × Obj)}{σ:St}{H:Hp}{s:Shared}{R:It->Hp->Prop}{E:Value->Shared->Prop}{lo hi:Int}{t u v:Tok}{tk:Nat} (I:Inv X pins σ H s) (h1:-(2 ^ 62) ≤ lo) (h2:lo < 2 ^ 62) (h3:-(2 ^ 62) ≤ hi) (h4:hi < 2 ^ 62)
  (q:R (Itr lo (hi - lo).toNat) H):wpAny (model X.prog X.w) X.A (pyIter (.ref s.heap.objs.size)) (PIE X pins σ tg R) E { s with heap:=s.heap.push { cls:=.type "range",data:=.fields #[.int lo t,.int hi u,.int 1 v] },toks:=tk }:=by
 refine wpAny_pyIter_range (IsRange.new ..) (small_one h1 h2 h3 h4) ?_
 have I1:Inv X pins σ H { s with heap:=s.heap.push { cls:=.type "range",data:=.fields #[.int lo t,.int hi u,.int 1 v] },toks:=tk }:=I.kept fun b o e => Heap.get?_push_of_some _ e
 refine ⟨(s.heap.push { cls:=.type "range",data:=.fields #[.int lo t,.int hi u,.int 1 v] }).objs.size,[(s.heap.push { cls:=.type "range",data:=.fields #[.int lo t,.int hi u,.int 1 v] }).objs.size],_,_,H,rfl,
  I1.kept (t':=tk) fun b o e => Heap.get?_push_of_some _ e,nqh _ lo (hi - lo).toNat,?_,fun b hb => ?_,q⟩
 ·have e1:lo + ((0:Nat):Int) * 1=lo:=by simp
  have e2:(((hi - lo).toNat:Nat):Int) - ((0:Nat):Int)=Builtin.Range.rangeSize lo hi 1:=by rw [rangeSize_one]; split <;> omega
  show IsRangeIter _ _ (lo + ((0:Nat):Int) * 1) ((((hi - lo).toNat:Nat):Int) - ((0:Nat):Int)) 1
  rw [e1,e2]
  exact Heap.get?_push_size _ rfl
 ·have e:b=(s.heap.push { cls:=.type "range",data:=.fields #[.int lo t,.int hi u,.int 1 v] }).objs.size:=by simpa using hb
  subst e
  exact I1.fpOk (Nat.le_refl _) (I1.hok.fresh (Nat.le_refl _))
def iRng1 (ta:TA):TI:=fun σ H R => ta σ H fun vs H1 => ∃ j:Int,vs=[.int j]∧-(2 ^ 62) ≤ j∧j < 2 ^ 62∧R (Itr 0 j.toNat) H1
theorem cql {a:Expr}{ta:TA}{p pos:Pos} (hg:Gl X "range") (hm:X.mg "range" = none) (ha:PA X [a] ta) (hs:starEach [a] X.env=[(false,eval a X.env)]:=by rfl):PI X tg (.Call (.Name "range" p) [a] [] pos) (iRng1 ta):=by
 intro pins s σ H R I h
 refine Call_ (iqb I hg hm boot_range (PyProof.Rows.callWith_type1 (thn (ha pos pins s σ H _ I h) fun us s1 W' => ?_) hs rfl))
 obtain ⟨vs,H1,I1,r1,q1⟩:=W'
 obtain ⟨j,e,q1,q2,q⟩:=q1
 subst e
 cases r1 with
 | cons r rr =>
  cases rr
  obtain ⟨t,rfl⟩:=r
  exact call_range_1 (pqT I1 (by omega) (by omega) q1 q2 (by simpa using q))
def tFor (wi:TI) (g:TG) (tb:TS):TS:=fun D σ H => wi σ H fun J H1 => ∃ W:Nat->Nat->St->Hp->Prop,(∃ m,W 0 m σ H1)∧∀ i m σ H,W i m σ H ->
 (J.stop i H∧D.nx σ H) ∨ (J.go i H∧∃ N:St->Hp->Prop,(∀ σ' H',N σ' H'->∃ m',m' < m∧W (i + 1) m' σ' H')∧∀ x H',J.yld i H x H'->g x σ H' fun σ2 H2 => tb { D with nx:=N,ct:=N,bk:=D.nx } σ2 H2)
def pinsAt (fp:List Addr) (h:Heap):List (Addr × Obj):=fp.filterMap fun b => (h.get? b).map fun o => (b,o)
theorem cqR {fp:List Addr}{h:Heap}{b:Addr}{o:Obj} (hb:b ∈ fp) (e:h.get? b=some o):(b,o) ∈ pinsAt fp h:=List.mem_filterMap.mpr ⟨b,hb,by rw [e]; rfl⟩
theorem nqV {fp:List Addr}{h:Heap}{p:Addr × Obj} (hp:p ∈ pinsAt fp h):p.1 ∈ fp∧h.get? p.1=some p.2:=by
 obtain ⟨b,hb,e⟩:=List.mem_filterMap.mp hp
 cases q:h.get? b with
 | none => rw [q] at e; cases e
 | some o =>
  rw [q] at e
  have e':(b,o)=p:=Option.some.inj e
  subst e'
  exact ⟨hb,q⟩
theorem Inv.pinned {pins:List (Addr × Obj)}{σ:St}{H:Hp}{s:Shared}{fp:List Addr} (I:Inv X pins σ H s) (hf:∀ b ∈ fp,FpOk X pins H b) (ho:∀ b ∈ fp,∃ o,s.heap.get? b=some o∧∀ v,o.data ≠ .cell v):Inv X (pins ++ pinsAt fp s.heap) σ H s :=
 I.pins_of fun p hp => (List.mem_append.mp hp).elim (fun z => I.pin p (List.mem_append_right _ z)) fun z => by
  obtain ⟨hb,e⟩:=nqV z
  obtain ⟨f0,f1,f2,_⟩:=hf p.1 hb
  obtain ⟨o,e',d⟩:=ho p.1 hb
  rw [e] at e'; cases e'
  exact ⟨e,f0,f1,f2,d⟩
theorem Inv.unpinned {pins pl:List (Addr × Obj)}{σ:St}{H:Hp}{s:Shared} (I:Inv X (pins ++ pl) σ H s):Inv X pins σ H s:=I.pins_of fun p hp => I.pin p (List.mem_append_right _ (List.mem_append_left _ hp))
theorem cqv {iter:Expr}{body:List Stmt}{wi:TI}{g:TG}{tb:TS}{pos:Pos} (hp:PassesOwn (model X.prog X.w) X.A X.env X.xe) (hc:X.calm=true) (hi:PI X tg iter wi) (hg:PG X tg g) (hb:PSs X body tb)
  (hs:∀ x,foldedSetIterable iter X.env x=pure x:=by intro _; rfl):PS X (.For tg iter body [] pos) (tFor wi g tb):=by
 intro pins s σ H D I h
 refine wpAny_For (thn (hi pins s σ H _ I h) fun v s1 h1 => thn h1 fun itv s2 h2 => ?_) hs
 obtain ⟨it,fp,tn,J,H2,e,I2,T,st2,f2,W,⟨m0,w0⟩,turn⟩:=h2
 subst e
 have stat:∀ {H':Hp},(∀ b ∈ fp,H' b=none)->∀ b ∈ fp,FpOk X pins H' b:=fun hn b hb => ⟨hn b hb,(f2 b hb).2⟩
 refine codeAny_forLoop_any (fun n s' => ∃ i σ' H',Inv X pins σ' H' s'∧tn i s'.heap∧(∀ b ∈ fp,H' b=none)∧W i n σ' H') ?_ m0 ⟨0,σ,H2,I2,st2,fun b hb => (f2 b hb).1,w0⟩
 rintro n s3 ⟨i,σ3,H3,I3,st3,fr3,w3⟩
 rcases turn i n σ3 H3 w3 with ⟨stop,qn⟩ | ⟨go,N,hN,step⟩
 ·refine wpAny_passesOwn hp (thn (T.done X rfl rfl rfl hc i pins s3 σ3 H3 X.xe I3 (stat fr3) st3 stop) fun r s4 W' => ?_)
  obtain ⟨hr,I4⟩:=W'
  subst hr
  exact wpAny_execs_nil ⟨σ3,H3,I4,qn⟩
 ·refine wpAny_passesOwn hp (thn (T.item X rfl rfl rfl hc i pins s3 σ3 H3 X.xe I3 (stat fr3) st3 go) fun r s4 W' => ?_)
  obtain ⟨u,hr,h4⟩:=W'
  subst hr
  refine wpAny_passesOwn hp (thn h4 fun _ s5 W' => ?_)
  obtain ⟨x,H5,I5,r5,y5,st5,fr5⟩:=W'
  have I5':=I5.pinned (stat fr5) (T.obj _ _ st5)
  refine wpAny_passesOwn hp (thn (hg _ s5 σ3 H5 x u _ I5' r5 (step x H5 y5)) fun _ s6 W' => ?_)
  obtain ⟨σ6,H6,I6,q6⟩:=W'
  refine wpAny_passesOwn hp (thn (hb _ s6 σ6 H6 _ I6 q6) fun f s7 q7 => ?_)
  have again:∀ {σ7:St}{H7:Hp},Inv X (pins ++ pinsAt fp s5.heap) σ7 H7 s7->N σ7 H7->∃ m,m < n∧∃ i σ' H',Inv X pins σ' H' s7∧tn i s7.heap∧(∀ b ∈ fp,H' b=none)∧W i m σ' H':=fun {σ7 H7} I7 n7 => by
   obtain ⟨m',hm,w7⟩:=hN σ7 H7 n7
   refine ⟨m',hm,i + 1,σ7,H7,I7.unpinned,T.keep _ _ _ st5 fun b hb o e => (I7.pin (b,o) (List.mem_append_right _ (List.mem_append_right _ (cqR hb e)))).1,fun b hb => ?_,w7⟩
   obtain ⟨o,e,d⟩:=T.obj _ _ st5 b hb
   exact (I7.pin (b,o) (List.mem_append_right _ (List.mem_append_right _ (cqR hb e)))).2.1
  cases f with
  | next => obtain ⟨σ7,H7,I7,n7⟩:=q7; exact again I7 n7
  | cont => obtain ⟨σ7,H7,I7,n7⟩:=q7; exact again I7 n7
  | brk => obtain ⟨σ7,H7,I7,q7⟩:=q7; exact ⟨σ7,H7,I7.unpinned,q7⟩
  | ret v => obtain ⟨x7,σ7,H7,I7,r7,q7⟩:=q7; exact ⟨x7,σ7,H7,I7.unpinned,r7,q7⟩
end
theorem qqQ {K:PySem.W.Frag}{a:Addr}{xs:List V}{g:TG}{tb:TS}{D:Ends}{σ:St}{H:Hp} (Pv:Nat->St->Hp->Prop) (h0:Pv 0 σ H) (hl:∀ i σ H,i ≤ xs.length->Pv i σ H->SqL K H a xs)
  (hs:∀ i x σ H,xs[i]?=some x->Pv i σ H->g x σ H fun σ2 H2 => tb { D with nx:=Pv (i + 1),ct:=Pv (i + 1),bk:=D.nx } σ2 H2) (hd:∀ σ H,Pv xs.length σ H->D.nx σ H) :
  ∃ W:Nat->Nat->St->Hp->Prop,(∃ m,W 0 m σ H)∧∀ i m σ H,W i m σ H ->
   ((Itl K a).stop i H∧D.nx σ H) ∨ ((Itl K a).go i H∧∃ N:St->Hp->Prop,(∀ σ' H',N σ' H'->∃ m',m' < m∧W (i + 1) m' σ' H')∧∀ x H',(Itl K a).yld i H x H'->g x σ H' fun σ2 H2 => tb { D with nx:=N,ct:=N,bk:=D.nx } σ2 H2):=by
 refine ⟨fun i m σ H => m=xs.length - i∧i ≤ xs.length∧Pv i σ H,⟨xs.length,by simp,Nat.zero_le _,h0⟩,?_⟩
 rintro i m σ H ⟨rfl,hi,p⟩
 have q:=hl i σ H hi p
 by_cases hlt:i < xs.length
 ·refine .inr ⟨⟨xs,xs[i],q,by simp [hlt]⟩,Pv (i + 1),fun σ' H' p' => ⟨xs.length - (i + 1),by omega,rfl,hlt,p'⟩,fun x H' y => ?_⟩
  obtain ⟨e,y⟩:=y
  subst e
  exact hs i x σ _ (y xs q) p
 ·have e:i=xs.length:=by omega
  subst e
  exact .inl ⟨⟨xs,q,Nat.le_refl _⟩,hd σ H p⟩
theorem rq2 {K:PySem.W.Frag}{a:Addr}{xs:List V}{g:TG}{tb:TS}{D:Ends}{σ:St}{H:Hp} (Pv:Nat->St->Hp->Prop) (h0:Pv 0 σ H) (hl:∀ i σ H,i ≤ xs.length->Pv i σ H->SqT K H a xs)
  (hs:∀ i x σ H,xs[i]?=some x->Pv i σ H->g x σ H fun σ2 H2 => tb { D with nx:=Pv (i + 1),ct:=Pv (i + 1),bk:=D.nx } σ2 H2) (hd:∀ σ H,Pv xs.length σ H->D.nx σ H) :
  ∃ W:Nat->Nat->St->Hp->Prop,(∃ m,W 0 m σ H)∧∀ i m σ H,W i m σ H ->
   ((Itt K a).stop i H∧D.nx σ H) ∨ ((Itt K a).go i H∧∃ N:St->Hp->Prop,(∀ σ' H',N σ' H'->∃ m',m' < m∧W (i + 1) m' σ' H')∧∀ x H',(Itt K a).yld i H x H'->g x σ H' fun σ2 H2 => tb { D with nx:=N,ct:=N,bk:=D.nx } σ2 H2):=by
 refine ⟨fun i m σ H => m=xs.length - i∧i ≤ xs.length∧Pv i σ H,⟨xs.length,by simp,Nat.zero_le _,h0⟩,?_⟩
 rintro i m σ H ⟨rfl,hi,p⟩
 have q:=hl i σ H hi p
 by_cases hlt:i < xs.length
 ·refine .inr ⟨⟨xs,xs[i],q,by simp [hlt]⟩,Pv (i + 1),fun σ' H' p' => ⟨xs.length - (i + 1),by omega,rfl,hlt,p'⟩,fun x H' y => ?_⟩
  obtain ⟨e,y⟩:=y
  subst e
  exact hs i x σ _ (y xs q) p
 ·have e:i=xs.length:=by omega
  subst e
  exact .inl ⟨⟨xs,q,Nat.le_refl _⟩,hd σ H p⟩
theorem oqJ {lo:Int}{n:Nat}{g:TG}{tb:TS}{D:Ends}{σ:St}{H:Hp} (Pv:Nat->St->Hp->Prop) (h0:Pv 0 σ H)
  (hs:∀ i σ H,i < n->Pv i σ H->g (.int (lo + i)) σ H fun σ2 H2 => tb { D with nx:=Pv (i + 1),ct:=Pv (i + 1),bk:=D.nx } σ2 H2) (hd:∀ σ H,Pv n σ H->D.nx σ H) :
  ∃ W:Nat->Nat->St->Hp->Prop,(∃ m,W 0 m σ H)∧∀ i m σ H,W i m σ H ->
   ((Itr lo n).stop i H∧D.nx σ H) ∨ ((Itr lo n).go i H∧∃ N:St->Hp->Prop,(∀ σ' H',N σ' H'->∃ m',m' < m∧W (i + 1) m' σ' H')∧∀ x H',(Itr lo n).yld i H x H'->g x σ H' fun σ2 H2 => tb { D with nx:=N,ct:=N,bk:=D.nx } σ2 H2):=by
 refine ⟨fun i m σ H => m=n - i∧i ≤ n∧Pv i σ H,⟨n,by simp,Nat.zero_le _,h0⟩,?_⟩
 rintro i m σ H ⟨rfl,hi,p⟩
 by_cases hlt:i < n
 ·refine .inr ⟨hlt,Pv (i + 1),fun σ' H' p' => ⟨n - (i + 1),by omega,rfl,hlt,p'⟩,fun x H' y => ?_⟩
  obtain ⟨e,y⟩:=y
  subst e y
  exact hs i σ _ hlt p
 ·have e:i=n:=by omega
  subst e
  exact .inl ⟨Nat.le_refl _,hd σ H p⟩
abbrev R2:=V->V->Hp->VK->Prop
def OpR (X:Cx) (f:Value->Value->Sem Value) (r:R2):Prop :=
 ∀ (pins:List (Addr × Obj)) (s:Shared) (σ:St) (H:Hp) (x y:V) (v u:Value) (Q:VK),Inv X pins σ H s->RelV x v->RelV y u->r x y H Q ->
  wpAny (model X.prog X.w) X.A (f v u) (EP X pins σ Q) X.xe s
def UnR (X:Cx) (f:Value->Sem Value) (r:V->Hp->VK->Prop):Prop :=
 ∀ (pins:List (Addr × Obj)) (s:Shared) (σ:St) (H:Hp) (x:V) (v:Value) (Q:VK),Inv X pins σ H s->RelV x v->r x H Q ->
  wpAny (model X.prog X.w) X.A (f v) (EP X pins σ Q) X.xe s
def CallR (X:Cx) (f:Value) (r:List V->Hp->VK->Prop):Prop :=
 ∀ (pins:List (Addr × Obj)) (s:Shared) (σ:St) (H:Hp) (xs:List V) (us:List Value) (Q:VK),Inv X pins σ H s->Vals xs us->r xs H Q ->
  wpAny (model X.prog X.w) X.A (call f us) (EP X pins σ Q) X.xe s
def tOp (r:R2) (ta tb:TE):TE:=fun σ H Q => ta σ H fun x H1 => tb σ H1 fun y H2 => r x y H2 Q
def tUn (r:V->Hp->VK->Prop) (ta:TE):TE:=fun σ H Q => ta σ H fun x H1 => r x H1 Q
def rI (C:Int->Int->Prop) (g:Int->Int->V):R2:=fun x y H Q => ∃ i j,x=.int i∧y=.int j∧C i j∧Q (g i j) H
def rI0 (g:Int->Int->V):R2:=fun x y H Q => ∃ i j,x=.int i∧y=.int j∧Q (g i j) H
def rU (g:Int->V):V->Hp->VK->Prop:=fun x H Q => ∃ i,x=.int i∧Q (g i) H
section
variable {X:Cx}{a b c:Expr}{ta tb tc:TE}{pos:Pos}
theorem binT (ha:PE X a ta) (hb:PE X b tb) {pins:List (Addr × Obj)}{s:Shared}{σ:St}{H:Hp}{R:V->V->Hp->Prop} (I:Inv X pins σ H s)
  (h:ta σ H fun x H1 => tb σ H1 fun y H2 => R x y H2) {Q:Value->Shared->Prop}{f:Value->Value->Sem Value}
  (hf:∀ v u s2 x y H2,Inv X pins σ H2 s2->RelV x v->RelV y u->R x y H2->wpAny (model X.prog X.w) X.A (f v u) Q X.xe s2) :
  wpAny (model X.prog X.w) X.A (eval a X.env) (fun v s₁ => wpAny (model X.prog X.w) X.A (eval b X.env) (fun u s₂ => wpAny (model X.prog X.w) X.A (f v u) Q X.xe s₂) X.xe s₁) X.xe s:=by
 refine thn (ha pins s σ H _ I h) fun v s1 W' => ?_
 obtain ⟨x,H1,I1,r1,q1⟩:=W'
 refine thn (hb pins s1 σ H1 _ I1 q1) fun u s2 W' => ?_
 obtain ⟨y,H2,I2,r2,q2⟩:=W'
 exact hf v u s2 x y H2 I2 r1 r2 q2
theorem aqn {op:Operator}{r:R2} (ho:OpR X (binaryOp op) r) (ha:PE X a ta) (hb:PE X b tb):PE X (.BinOp a op b pos) (tOp r ta tb):=by
 intro pins s σ H Q I h
 exact wpAny_BinOp (binT ha hb I h fun v u s2 x y H2 I2 rx ry q => ho pins s2 σ H2 x y v u Q I2 rx ry q)
theorem nqv {op:UnaryOp}{r:V->Hp->VK->Prop} (ho:UnR X (unaryOp op) r) (ha:PE X a ta):PE X (.UnaryOp op a pos) (tUn r ta):=by
 intro pins s σ H Q I h
 exact UnaryOp_ (thn (ha pins s σ H _ I h) fun v s1 ⟨x,H1,I1,r1,q1⟩ => ho pins s1 σ H1 x v Q I1 r1 q1)
theorem opI {f:Value->Value->Sem Value}{C:Int->Int->Prop}{g:Int->Int->Int}
  (rule:∀ (i j:Int) (t u:Tok) (s:Shared) (Q:Value->Shared->Prop) (E:Value->Shared->Prop),C i j->Q (.int (g i j) s.toks) { s with toks:=s.toks + 1 }->wpAny (model X.prog X.w) X.A (f (.int i t) (.int j u)) Q E s) :
  OpR X f (rI C fun i j => .int (g i j)):=by
 intro pins s σ H x y v u Q I rx ry h
 obtain ⟨i,j,rfl,rfl,hc,q⟩:=h
 obtain ⟨t,rfl⟩:=rx
 obtain ⟨t',rfl⟩:=ry
 exact rule i j t t' s _ _ hc ⟨.int (g i j),H,I.tok _,⟨_,rfl⟩,q⟩
theorem opI0 {f:Value->Value->Sem Value}{g:Int->Int->Int}
  (rule:∀ (i j:Int) (t u:Tok) (s:Shared) (Q:Value->Shared->Prop) (E:Value->Shared->Prop),Q (.int (g i j) s.toks) { s with toks:=s.toks + 1 }->wpAny (model X.prog X.w) X.A (f (.int i t) (.int j u)) Q E s) :
  OpR X f (rI0 fun i j => .int (g i j)):=by
 intro pins s σ H x y v u Q I rx ry h
 obtain ⟨i,j,rfl,rfl,q⟩:=h
 obtain ⟨t,rfl⟩:=rx
 obtain ⟨t',rfl⟩:=ry
 exact rule i j t t' s _ _ ⟨.int (g i j),H,I.tok _,⟨_,rfl⟩,q⟩
theorem opB0 {f:Value->Value->Sem Value}{g:Int->Int->Bool}
  (rule:∀ (i j:Int) (t u:Tok) (s:Shared) (Q:Value->Shared->Prop) (E:Value->Shared->Prop),Q (.bool (g i j)) s->wpAny (model X.prog X.w) X.A (f (.int i t) (.int j u)) Q E s) :
  OpR X f (rI0 fun i j => .bl (g i j)):=by
 intro pins s σ H x y v u Q I rx ry h
 obtain ⟨i,j,rfl,rfl,q⟩:=h
 obtain ⟨t,rfl⟩:=rx
 obtain ⟨t',rfl⟩:=ry
 exact rule i j t t' s _ _ ⟨.bl (g i j),H,I,rfl,q⟩
def CDiv (i j:Int):Prop:=0 < j∧j < 1073741824
def CPow (i j:Int):Prop:=0 ≤ j∧j ≤ 1000000∧i.natAbs < 2 ^ 64
def CMul (i j:Int):Prop:=(-(2 ^ 64) < i∧i < 2 ^ 64) ∨ (-(2 ^ 64) < j∧j < 2 ^ 64)
theorem CMul.ok {i j:Int} (h:CMul i j):IntMulOk i j:=by
 rcases h with ⟨h1,h2⟩ | ⟨h1,h2⟩
 ·exact .of_left (intBits_le_64 h1 h2)
 ·exact .of_right (intBits_le_64 h1 h2)
theorem tqt:OpR X (binaryOp .Add) (rI0 fun i j => .int (i + j)):=opI0 fun _ _ _ _ _ _ _ q => add_int q
theorem mqq:OpR X (binaryOp .Sub) (rI0 fun i j => .int (i - j)):=opI0 fun _ _ _ _ _ _ _ q => sub_int q
theorem tqX:OpR X (binaryOp .Mult) (rI CMul fun i j => .int (i * j)):=opI fun _ _ _ _ _ _ _ hc q => mul_int q hc.ok
theorem aqA:OpR X (binaryOp .FloorDiv) (rI CDiv fun i j => .int (i / j)):=opI fun i j _ _ _ _ _ hc q => by
 have h1:(0:Int) < j:=hc.1
 have h2:j < 1073741824:=hc.2
 exact floordiv_int (by omega) (by rw [Int.fdiv_eq_ediv_of_nonneg i (by omega)]; exact q) (.inl (PyProof.noPylong_small (by omega)))
theorem aqJ:OpR X (binaryOp .Mod) (rI (fun _ j => 0 < j) fun i j => .int (i % j)):=opI fun i j _ _ _ _ _ hc q => by
 have h1:(0:Int) < j:=hc
 exact mod_int' (by omega) (by rw [Int.fmod_eq_emod_of_nonneg i (by omega)]; exact q)
theorem pqb:OpR X (binaryOp .Pow) (rI CPow fun i j => .int (i ^ j.toNat)):=opI fun _ _ _ _ _ _ _ hc q => pow_int_small hc.1 hc.2.1 hc.2.2 q
theorem unI {f:Value->Sem Value}{g:Int->Int}
  (rule:∀ (i:Int) (t:Tok) (s:Shared) (Q:Value->Shared->Prop) (E:Value->Shared->Prop),Q (.int (g i) s.toks) { s with toks:=s.toks + 1 }->wpAny (model X.prog X.w) X.A (f (.int i t)) Q E s) :
  UnR X f (rU fun i => .int (g i)):=by
 intro pins s σ H x v Q I rx h
 obtain ⟨i,rfl,q⟩:=h
 obtain ⟨t,rfl⟩:=rx
 exact rule i t s _ _ ⟨.int (g i),H,I.tok _,⟨_,rfl⟩,q⟩
theorem jqd:UnR X (unaryOp .USub) (rU fun i => .int (-i)):=unI fun _ _ _ _ _ q => neg_int q
end
def scal:V->V->Bool
 | .non,.non => true | .non,.int _ => true | .int _,.non => true | .non,.bl _ => true | .bl _,.non => true | .non,.str _ => true | .str _,.non => true
 | .int _,.int _ => true | .bl _,.bl _ => true | .str _,.str _ => true | .byt _,.byt _ => true
 | .int _,.str _ => true | .str _,.int _ => true | .bl _,.str _ => true | .str _,.bl _ => true
 | _,_ => false
def rEq:R2:=fun x y H Q => scal x y=true∧Q (.bl (decide (x=y))) H
def rNe:R2:=fun x y H Q => scal x y=true∧Q (.bl (!decide (x=y))) H
theorem nq2 {i j:Int}:decide (V.int i=V.int j)=(i == j):=by
 rw [Bool.eq_iff_iff]
 simp
theorem rqc {i j:Bool}:decide (V.bl i=V.bl j)=(i == j):=by
 rw [Bool.eq_iff_iff]
 simp
theorem oqQ {i j:Str}:decide (V.str i=V.str j)=(i == j):=by
 rw [Bool.eq_iff_iff]
 simp
theorem oqy {i j:Array UInt8}:decide (V.byt i=V.byt j)=(i.toList == j.toList):=by
 rw [Bool.eq_iff_iff]
 cases i
 cases j
 simp
section
variable {X:Cx}{a b c:Expr}{ta tb tc:TE}{pos:Pos}
theorem aqL {pins:List (Addr × Obj)}{σ:St}{H:Hp}{s:Shared}{Q:VK}{k k':Bool} (I:Inv X pins σ H s) (q:Q (.bl k) H) (e:k=k'):EP X pins σ Q (.bool k') s:=by
 subst e
 exact ⟨.bl k,H,I,rfl,q⟩
theorem aqT:OpR X (compareOp .Eq) rEq:=by
 intro pins s σ H x y v u Q I rx ry h
 obtain ⟨hs,q⟩:=h
 cases x with
 | non =>
  cases rx
  cases y with
  | non => cases ry; exact PySem.EqNone.eq_none_none (aqL I q (by simp))
  | bl j => cases ry; exact PySem.EqNone.eq_none_bool (aqL I q (by simp))
  | int j => obtain ⟨t',rfl⟩:=ry; exact PySem.EqNone.eq_none_int (aqL I q (by simp))
  | str j => obtain ⟨t',rfl⟩:=ry; exact PySem.EqNone.eq_none_str (aqL I q (by simp))
  | _ => exact absurd (show false=true from hs) Bool.false_ne_true
 | bl i =>
  cases rx
  cases y with
  | non => cases ry; exact PySem.EqNone.eq_bool_none (aqL I q (by simp))
  | bl j => cases ry; exact eq_bool (aqL I q rqc)
  | str j => obtain ⟨t',rfl⟩:=ry; exact PySem.EqMixed.eq_bool_str (aqL I q (by simp))
  | _ => exact absurd (show false=true from hs) Bool.false_ne_true
 | int i =>
  obtain ⟨t,rfl⟩:=rx
  cases y with
  | non => cases ry; exact PySem.EqNone.eq_int_none (aqL I q (by simp))
  | int j => obtain ⟨t',rfl⟩:=ry; exact eq_int (aqL I q nq2)
  | str j => obtain ⟨t',rfl⟩:=ry; exact PySem.EqMixed.eq_int_str (aqL I q (by simp))
  | _ => exact absurd (show false=true from hs) Bool.false_ne_true
 | str i =>
  obtain ⟨t,rfl⟩:=rx
  cases y with
  | non => cases ry; exact PySem.EqNone.eq_str_none (aqL I q (by simp))
  | bl j => cases ry; exact PySem.EqMixed.eq_str_bool (aqL I q (by simp))
  | int j => obtain ⟨t',rfl⟩:=ry; exact PySem.EqMixed.eq_str_int (aqL I q (by simp))
  | str j => obtain ⟨t',rfl⟩:=ry; exact eq_str (aqL I q oqQ)
  | _ => exact absurd (show false=true from hs) Bool.false_ne_true
 | byt i =>
  obtain ⟨t,rfl⟩:=rx
  cases y with
  | byt j => obtain ⟨t',rfl⟩:=ry; exact PySem.W.eq_bytes (aqL I q oqy)
  | _ => exact absurd (show false=true from hs) Bool.false_ne_true
 | _ => cases y <;> exact absurd (show false=true from hs) Bool.false_ne_true
theorem lqd:OpR X (compareOp .NotEq) rNe:=by
 intro pins s σ H x y v u Q I rx ry h
 obtain ⟨hs,q⟩:=h
 cases x with
 | non =>
  cases rx
  cases y with
  | non => cases ry; exact PySem.EqNone.ne_none_none (aqL I q (by simp))
  | bl j => cases ry; exact PySem.EqNone.ne_none_bool (aqL I q (by simp))
  | int j => obtain ⟨t',rfl⟩:=ry; exact PySem.EqNone.ne_none_int (aqL I q (by simp))
  | str j => obtain ⟨t',rfl⟩:=ry; exact PySem.EqNone.ne_none_str (aqL I q (by simp))
  | _ => exact absurd (show false=true from hs) Bool.false_ne_true
 | bl i =>
  cases rx
  cases y with
  | non => cases ry; exact PySem.EqNone.ne_bool_none (aqL I q (by simp))
  | bl j => cases ry; exact ne_bool (aqL I q (congrArg not rqc))
  | str j => obtain ⟨t',rfl⟩:=ry; exact PySem.EqMixed.ne_bool_str (aqL I q (by simp))
  | _ => exact absurd (show false=true from hs) Bool.false_ne_true
 | int i =>
  obtain ⟨t,rfl⟩:=rx
  cases y with
  | non => cases ry; exact PySem.EqNone.ne_int_none (aqL I q (by simp))
  | int j => obtain ⟨t',rfl⟩:=ry; exact ne_int (aqL I q (congrArg not nq2))
  | str j => obtain ⟨t',rfl⟩:=ry; exact PySem.EqMixed.ne_int_str (aqL I q (by simp))
  | _ => exact absurd (show false=true from hs) Bool.false_ne_true
 | str i =>
  obtain ⟨t,rfl⟩:=rx
  cases y with
  | non => cases ry; exact PySem.EqNone.ne_str_none (aqL I q (by simp))
  | bl j => cases ry; exact PySem.EqMixed.ne_str_bool (aqL I q (by simp))
  | int j => obtain ⟨t',rfl⟩:=ry; exact PySem.EqMixed.ne_str_int (aqL I q (by simp))
  | str j => obtain ⟨t',rfl⟩:=ry; exact ne_str (aqL I q (congrArg not oqQ))
  | _ => exact absurd (show false=true from hs) Bool.false_ne_true
 | byt i =>
  obtain ⟨t,rfl⟩:=rx
  cases y with
  | byt j => obtain ⟨t',rfl⟩:=ry; exact PySem.W.ne_bytes (aqL I q (congrArg not oqy))
  | _ => exact absurd (show false=true from hs) Bool.false_ne_true
 | _ => cases y <;> exact absurd (show false=true from hs) Bool.false_ne_true
theorem lqz:OpR X (compareOp .Lt) (rI0 fun i j => .bl (decide (i < j))):=opB0 fun _ _ _ _ _ _ _ q => lt_int q
theorem oqG:OpR X (compareOp .LtE) (rI0 fun i j => .bl (decide (i ≤ j))):=opB0 fun _ _ _ _ _ _ _ q => le_int q
theorem oq7:OpR X (compareOp .Gt) (rI0 fun i j => .bl (decide (j < i))):=opB0 fun _ _ _ _ _ _ _ q => gt_int q
theorem uqV:OpR X (compareOp .GtE) (rI0 fun i j => .bl (decide (j ≤ i))):=opB0 fun _ _ _ _ _ _ _ q => ge_int q
theorem nqX:OpR X (compareOp .In) (fun x y H Q => ∃ i j,x=.str i∧y=.str j∧Q (.bl (!(Builtin.Str.occurrences j i 0 j.length 1).isEmpty)) H):=by
 intro pins s σ H x y v u Q I rx ry h
 obtain ⟨i,j,rfl,rfl,q⟩:=h
 obtain ⟨t,rfl⟩:=rx
 obtain ⟨t',rfl⟩:=ry
 exact in_str (aqL I q rfl)
theorem uqp:OpR X (compareOp .Is) (fun x y H Q => y=.non∧Q (.bl (decide (x=.non))) H):=by
 intro pins s σ H x y v u Q I rx ry h
 obtain ⟨rfl,q⟩:=h
 cases ry
 refine is_none_gen (aqL I q ?_)
 cases x <;> first
  | (cases rx; rfl)
  | (obtain ⟨t,rfl⟩:=rx; rfl)
theorem nomark (b:Expr) {op:CmpOp} (h:op ≠ .In:=by decide) (h2:op ≠ .NotIn:=by decide):behindInMarks op b=false:=by
 have e1:(op == CmpOp.In)=false:=by cases op <;> first | rfl | exact absurd rfl h
 have e2:(op == CmpOp.NotIn)=false:=by cases op <;> first | rfl | exact absurd rfl h2
 cases b <;> simp [behindInMarks,e1,e2]
theorem aqQ {op:CmpOp}{r:R2} (ho:OpR X (compareOp op) r) (ha:PE X a ta) (hb:PE X b tb) (hm:behindInMarks op b=false):PE X (.Compare a [op] [b] pos) (tOp r ta tb):=by
 intro pins s σ H Q I h
 exact wpAny_Compare1 (binT ha hb I h fun v u s2 x y H2 I2 rx ry q => ho pins s2 σ H2 x y v u Q I2 rx ry q) hm
def tTest (t:TE):TT:=fun σ H Q => t σ H fun x H' => ∃ k,x=.bl k∧Q k H'
theorem aqm {op:CmpOp}{r:R2} (ho:OpR X (compareOp op) r) (ha:PE X a ta) (hb:PE X b tb) (hm:behindInMarks op b=false):PT X (.Compare a [op] [b] pos) (tTest (tOp r ta tb)):=by
 intro pins s σ H Q I h
 refine wpAny_isTrue_Compare1 (thn (ha pins s σ H _ I h) fun v s1 ⟨x,H1,I1,r1,q1⟩ => thn (hb pins s1 σ H1 _ I1 q1) fun u s2 ⟨y,H2,I2,r2,q2⟩ =>
  thn (ho pins s2 σ H2 x y v u _ I2 r1 r2 q2) fun c s3 ⟨z,H3,I3,r3,k,e,q3⟩ => ?_) hm
 subst e
 cases r3
 exact wpAny_truthy_bool ⟨H3,I3,q3⟩
def tChain (r r':R2) (ta tb tc:TE):TE:=fun σ H Q => ta σ H fun x H1 => tb σ H1 fun y H2 => r x y H2 fun z H3 => ∃ k,z=.bl k ∧
 (if k=true then tc σ H3 fun w' H4 => r' y w' H4 Q else Q (.bl false) H3)
theorem mqG {op op':CmpOp}{r r':R2} (ho:OpR X (compareOp op) r) (ho':OpR X (compareOp op') r') (ha:PE X a ta) (hb:PE X b tb) (hc:PE X c tc)
  (hm:lastMarks [op,op'] [b,c]=false:=by with_unfolding_all rfl):PE X (.Compare a [op,op'] [b,c] pos) (tChain r r' ta tb tc):=by
 intro pins s σ H Q I h
 refine Compare_chain (thn (ha pins s σ H _ I h) fun v s1 ⟨x,H1,I1,r1,q1⟩ => chain_link (thn (hb pins s1 σ H1 _ I1 q1) fun u s2 ⟨y,H2,I2,r2,q2⟩ =>
  thn (ho pins s2 σ H2 x y v u _ I2 r1 r2 q2) fun d s3 ⟨z,H3,I3,r3,k,e,q3⟩ => ?_)) hm
 subst e
 cases r3
 refine wpAny_truthy_bool ?_
 cases k with
 | false => exact ite_ff ⟨.bl false,H3,I3,rfl,q3⟩
 | true => exact ite_tt (chain_last (thn (hc pins s3 σ H3 _ I3 q3) fun w' s4 ⟨z',H4,I4,r4,q4⟩ => ho' pins s4 σ H4 y z' u w' Q I4 r2 r4 q4))
theorem qqM {op op':CmpOp}{r r':R2} (ho:OpR X (compareOp op) r) (ho':OpR X (compareOp op') r') (ha:PE X a ta) (hb:PE X b tb) (hc:PE X c tc)
  (hm:lastMarks [op,op'] [b,c]=false:=by with_unfolding_all rfl):PT X (.Compare a [op,op'] [b,c] pos) (tTest (tChain r r' ta tb tc)):=by
 intro pins s σ H Q I h
 refine isTrue_chain (thn (ha pins s σ H _ I h) fun v s1 ⟨x,H1,I1,r1,q1⟩ => test_link (thn (hb pins s1 σ H1 _ I1 q1) fun u s2 ⟨y,H2,I2,r2,q2⟩ =>
  thn (ho pins s2 σ H2 x y v u _ I2 r1 r2 q2) fun d s3 ⟨z,H3,I3,r3,k,e,q3⟩ => ?_)) hm
 subst e
 cases r3
 refine wpAny_truthy_bool ?_
 cases k with
 | false =>
  obtain ⟨k',e',q'⟩:=q3
  cases e'
  exact ite_ff ⟨H3,I3,q'⟩
 | true =>
  refine ite_tt (test_last (thn (hc pins s3 σ H3 _ I3 q3) fun w' s4 ⟨z',H4,I4,r4,q4⟩ => thn (ho' pins s4 σ H4 y z' u w' _ I4 r2 r4 q4) fun d' s5 W' => ?_))
  obtain ⟨z2,H5,I5,r5,k2,e2,q5⟩:=W'
  subst e2
  cases r5
  exact wpAny_truthy_bool ⟨H5,I5,q5⟩
theorem line63:(sizeLine:Nat) < 2 ^ 63:=by rw [sizeLine_eq]; decide
theorem nqs:OpR X (binaryOp .Add) (fun x y H Q => ∃ i j,x=.str i∧y=.str j∧i.length + j.length ≤ sizeLine∧Q (.str (i ++ j)) H):=by
 intro pins s σ H x y v u Q I rx ry h
 obtain ⟨i,j,rfl,rfl,hz,q⟩:=h
 obtain ⟨t,rfl⟩:=rx
 obtain ⟨t',rfl⟩:=ry
 exact add_str (fun t' tk => ⟨.str (i ++ j),H,I.tok _,⟨_,rfl⟩,q⟩) hz
theorem vals1 {x:V}{us:List Value} (r:Vals [x] us):∃ u,us=[u]∧RelV x u:=by
 cases r with
 | cons r1 r2 => cases r2; exact ⟨_,rfl,r1⟩
theorem vals2 {x y:V}{us:List Value} (r:Vals [x,y] us):∃ u w',us=[u,w']∧RelV x u∧RelV y w':=by
 cases r with
 | cons r1 r2 =>
  cases r2 with
  | cons r3 r4 => cases r4; exact ⟨_,_,rfl,r1,r3⟩
theorem hqb:CallR X (.type "str") (fun xs H Q => ∃ i,xs=[.int i]∧i.natAbs.log2 < 1920∧Q (.str (toString i)) H):=by
 intro pins s σ H xs us Q I r h
 obtain ⟨i,rfl,hz,q⟩:=h
 obtain ⟨u,rfl,t,rfl⟩:=vals1 r
 exact PySem.P.str_of_int hz ⟨.str _,H,I.tok _,⟨_,rfl⟩,q⟩
end
structure ObjM (h:Heap) (x dx C:Addr) (mA:Str->Option Value):Prop where
 obj:h.get? x=some (PySem.W.instObj C dx)
 ns:h.Ns1 dx mA
 ne:dx ≠ x
theorem kqq {h:Heap}{dx:Addr}{mA:Str->Option Value} (n:h.Ns1 dx mA):∃ od,h.get? dx=some od∧∀ name,PySem.W.lookIn name od=some (mA name):=by
 obtain ⟨o,es,ep,ho,hd,hk,_,hm⟩:=n
 refine ⟨o,ho,fun name => ?_⟩
 have e:=hm name
 unfold nsFind findBy at e
 rw [<- Array.find?_toList] at e
 unfold PySem.W.lookIn
 rw [hd]
 dsimp only
 split
 ·rename_i y q
  rw [q] at e
  exact congrArg some e
 ·rename_i q
  rw [q] at e
  have a:es.toList.any (·.refKey)=false:=by
   rw [List.any_eq_false]
   intro y hy
   obtain ⟨z,t,hkey⟩:=hk y (Array.mem_toList_iff.mp hy)
   simp [DictEntry.refKey,hkey]
  have a':¬ es.toList.any (·.refKey)=true:=by rw [a]; exact Bool.false_ne_true
  rw [if_neg a']
  exact congrArg some e
theorem ObjM.look {h:Heap}{x dx C:Addr}{mA:Str->Option Value} (I:ObjM h x dx C mA):∃ od,PySem.W.InstAt h x (PySem.W.instObj C dx) C (some od)∧∀ name,PySem.W.lookIn name od=some (mA name) :=
 let ⟨od,ho,hl⟩:=kqq I.ns
 ⟨od,⟨I.obj,rfl,rfl,ho⟩,hl⟩
section
variable {prog:Program}{w:World}{A:Around}{E:Value->Shared->Prop}{s:Shared}{K:PySem.W.Frag}{x dx C f:Addr}{mA:Str->Option Value}{name:Str}{v:Value}
end
def putF (f:Str) (v:V):List (Str × V)->List (Str × V)
 | [] => [(f,v)]
 | (g,x) :: r => if g=f then (g,v) :: r else (g,x) :: putF f v r
theorem RelO.some_of {v:V}{o:Option Value} (r:RelO (some v) o):∃ u,o=some u∧RelV v u:=by
 cases o with
 | none => exact (show False from r).elim
 | some u => exact ⟨u,rfl,r⟩
theorem oqp {v:V}{u:Value} (r:RelV v u):PySem.W.handedIn u=true:=by
 cases v with
 | non => cases (show u=Value.none from r); rfl
 | bl b => cases (show u=Value.bool b from r); rfl
 | int i => obtain ⟨t,e⟩:=(show ∃ t,u=Value.int i t from r); cases e; rfl
 | str x => obtain ⟨t,e⟩:=(show ∃ t,u=Value.str x t from r); cases e; rfl
 | byt b => obtain ⟨t,e⟩:=(show ∃ t,u=Value.bytes b t from r); cases e; rfl
 | flt b => obtain ⟨t,e⟩:=(show ∃ t,u=Value.float b t from r); cases e; rfl
 | ref a => cases (show u=Value.ref a from r); rfl
 | ty n => cases (show u=Value.type n from r); rfl
section
variable {P:Program}{w:World}{H H':Hp}{h h':Heap}{a C dx:Addr}{fs fs':List (Str × V)}
theorem rqU (hok:HOk P w H h) (e:H a=some (.ins C dx fs)):∃ mA,ObjM h a dx C mA∧(∀ f,RelO (fs.lookup f) (mA f))∧PySem.Within mA (fs.map (·.1))∧fs.length ≤ 1000∧H dx=some (.own a):=by
 obtain ⟨d,z,ne,ob,mA,n,r,q⟩:=(show ObjOk P w H h a (.ins C dx fs) from hok a _ e)
 exact ⟨mA,⟨ob,n,ne⟩,r,q,z,d⟩
end
structure Cls (K:PySem.W.Frag) (C:Addr):Prop where
 pg:PySem.W.plainGet K C Str.empty=true
 hd:PySem.W.hasDictIn K C=true
 po:PySem.W.plainOver K C=true
 sa:PySem.W.findIn K (.ref C) "__setattr__" = some (some (.builtin "object.__setattr__"))
theorem Cls.get {K:PySem.W.Frag}{C:Addr} (c:Cls K C) (f:Str):PySem.W.plainGet K C f=true:=c.pg
def NoAttr (K:PySem.W.Frag) (C:Addr) (f:Str):Prop:=PySem.W.findIn K (.ref C) f=some none
theorem NoAttr.taker {K:PySem.W.Frag}{C:Addr}{f:Str} (n:NoAttr K C f):PySem.W.takerIn K C f=some none:=by
 unfold PySem.W.takerIn
 rw [show PySem.W.findIn K (.ref C) f=some none from n]
 rfl
structure Con (K:PySem.W.Frag) (C:Addr) (f:Str) (v:V) (u:Value):Prop where
 at_:PySem.W.findIn K (.ref C) f=some (some u)
 rel:RelV v u
 get:PySem.W.specialIn K u "__get__" = some none
 cp:PySem.W.copiedNames.contains f=false
structure Meth (K:PySem.W.Frag) (C:Addr) (m:Str) (f:Addr):Prop where
 at_:PySem.W.findIn K (.ref C) m=some (some (.ref f))
 fn:PySem.W.isFn K (.ref f)=true
 kp:PySem.W.keepIn K (.ref f)=true
section
variable {X:Cx}{pins:List (Addr × Obj)}{σ:St}{H:Hp}{s:Shared}{a C dx:Addr}{fs:List (Str × V)}{f:Str}{v:V}{A:Around}{E:Value->Shared->Prop}
theorem sqd {prog:Program}{w:World}{env:Env}{e:Expr}{f:Str}{pos:Pos}{s:Shared}{Q:Value->Shared->Prop} (hb:attributeBase e f env (eval e env)=eval e env)
  (h:wpAny (model prog w) A (eval e env) (fun o s₁ => wpAny (model prog w) A (getAttr o f true) Q E s₁) E s):wpAny (model prog w) A (eval (.Attribute e f pos) env) Q E s :=
 Attribute_any_ h (by rw [arm_eval_Attribute,hb])
end
def tFld (K:PySem.W.Frag) (ta:TE) (f:Str):TE:=fun σ H Q => ta σ H fun x H1 => ∃ a C dx fs v,x=.ref a∧H1 a=some (.ins C dx fs)∧Cls K C∧NoAttr K C f∧fs.lookup f=some v∧Q v H1
def sFld (K:PySem.W.Frag) (ta tv:TE) (f:Str):TS:=fun D σ H => tv σ H fun y H1 => ta σ H1 fun x H2 => ∃ a C dx fs,x=.ref a∧H2 a=some (.ins C dx fs)∧Cls K C∧NoAttr K C f∧fs.length < 1000 ∧
 D.nx σ (upd H2 a (.ins C dx (putF f y fs)))
section
variable {X:Cx}{o e value:Expr}{f:Str}{pos pos' tpos:Pos}{ta tv:TE}
end
section
variable {X:Cx}{pins:List (Addr × Obj)}{σ:St}{H:Hp}{s:Shared}{A:Around}{E:Value->Shared->Prop}{Q:Value->Shared->Prop}{c:Value}{b:Bool}
inductive TyOf (K:PySem.W.Frag) (H:Hp):V->Value->Prop where
 | non:TyOf K H .non (.type "NoneType")
 | bl (x:Bool):TyOf K H (.bl x) (.type "bool")
 | int (i:Int):TyOf K H (.int i) (.type "int")
 | str (x:Str):TyOf K H (.str x) (.type "str")
 | flt (x:UInt64):TyOf K H (.flt x) (.type "float")
 | lst {a:Addr}{xs:List V} (e:H a=some (.lst xs)):TyOf K H (.ref a) (.type "list")
 | frz {a:Addr}{o:Obj}{xs:List V} (e:H a=some (.frz o (.lst xs))):TyOf K H (.ref a) (.type "list")
 | tup {a:Addr}{xs:List V} (e:H a=some (.tup xs)):TyOf K H (.ref a) (.type "tuple")
 | dK {a:Addr}{kvs:List (Key × V)} (e:H a=some (.dK kvs)):TyOf K H (.ref a) (.type "dict")
 | dT {a:Addr}{kvs:List (List Key × V)} (e:H a=some (.dT kvs)):TyOf K H (.ref a) (.type "dict")
 | ins {a C dx:Addr}{fs:List (Str × V)} (e:H a=some (.ins C dx fs)) (cl:Cls K C) (ha:PySem.W.findIn K (.ref C) "__class__" = some (some (.builtin "object.__class__")))
   (hn:PySem.W.specialIn K (.builtin "object.__class__") "__get__" = some (some (.builtin "getset_descriptor.__get__"))) (htk:PySem.W.takesIn K (.builtin "object.__class__")=some true)
   (hm:PySem.W.mroIn K C (.type "object")=some true):TyOf K H (.ref a) (.ref C)
theorem nqP {x:V}{u t:Value} (I:Inv X pins σ H s) (rx:RelV x u) (ty:TyOf X.K H x t) (e:PySem.W.kitOne X.K t c=some b) (h:∀ tk,Q (.bool b) { s with toks:=tk }) :
  wpAny (model X.prog X.w) A (call (.builtin "isinstance") [u,c]) Q E s:=by
 cases ty with
 | non => cases (show u=Value.none from rx); exact PySem.W.kia_one PySem.W.kitx_none I.kIn True.intro e (fun z => nomatch z) h
 | bl y => cases (show u=Value.bool y from rx); exact PySem.W.kia_one PySem.W.kitx_bool I.kIn True.intro e (fun z => nomatch z) h
 | int i => obtain ⟨t,q⟩:=(show ∃ t,u=Value.int i t from rx); cases q; exact PySem.W.kia_one PySem.W.kitx_int I.kIn True.intro e (fun z => nomatch z) h
 | str y => obtain ⟨t,q⟩:=(show ∃ t,u=Value.str y t from rx); cases q; exact PySem.W.kia_one PySem.W.kitx_str I.kIn True.intro e (fun z => nomatch z) h
 | flt y => obtain ⟨t,q⟩:=(show ∃ t,u=Value.float y t from rx); cases q; exact PySem.W.kia_one PySem.W.kitx_float I.kIn True.intro e (fun z => nomatch z) h
 | @lst a xs ea =>
  cases (show u=Value.ref a from rx)
  obtain ⟨_,_,n,_,h1⟩:=(show ObjOk X.prog X.w H s.heap a (.lst xs) from I.hok a _ ea)
  exact PySem.W.kia_one PySem.W.kitx_list I.kIn ⟨_,h1,rfl⟩ e (fun z => nomatch z) h
 | @frz a ob xs ea =>
  cases (show u=Value.ref a from rx)
  obtain ⟨_,_,_,n,_,h1⟩:=(show ObjOk X.prog X.w H s.heap a (.frz ob (.lst xs)) from I.hok a _ ea)
  exact PySem.W.kia_one PySem.W.kitx_list I.kIn ⟨_,h1,rfl⟩ e (fun z => nomatch z) h
 | @tup a xs ea =>
  cases (show u=Value.ref a from rx)
  obtain ⟨_,_,_,p⟩:=(show ObjOk X.prog X.w H s.heap a (.tup xs) from I.hok a _ ea)
  obtain ⟨o,h1,h2,_⟩:=p
  exact PySem.W.kia_one PySem.W.kitx_tuple I.kIn ⟨o,h1,h2⟩ e (fun z => nomatch z) h
 | @dK a kvs ea =>
  cases (show u=Value.ref a from rx)
  obtain ⟨_,_,vs,_,p⟩:=(show ObjOk X.prog X.w H s.heap a (.dK kvs) from I.hok a _ ea)
  obtain ⟨o,es,ep,h1,h2,_⟩:=p
  exact PySem.W.kia_one PySem.W.kitx_dict I.kIn ⟨o,h1,h2.1⟩ e (fun z => nomatch z) h
 | @dT a kvs ea =>
  cases (show u=Value.ref a from rx)
  obtain ⟨_,_,xs,_,o,es,ep,h1,h2,_⟩:=(show ObjOk X.prog X.w H s.heap a (.dT kvs) from I.hok a _ ea)
  exact PySem.W.kia_one PySem.W.kitx_dict I.kIn ⟨o,h1,h2.1⟩ e (fun z => nomatch z) h
 | @ins a C dx fs ea cl ha hn htk hm =>
  cases (show u=Value.ref a from rx)
  obtain ⟨mA,O,_⟩:=rqU I.hok ea
  obtain ⟨od,J,_⟩:=O.look
  exact PySem.W.kia_one (PySem.W.kitx_own (cl.get _) cl.hd ha hn htk hm) I.kIn J e (fun z => nomatch z) h
end
structure Room (k:Nat) (A:Around):Prop where
 hd:A.handled=none
 dp:A.depth + 3 * k + 5 < recursionLimit
 un:A.units + 16 * k + 200 < cLine
theorem Room.mono {j k:Nat}{A:Around} (r:Room k A) (h:j ≤ k):Room j A:=⟨r.hd,by have:=r.dp; omega,by have:=r.un; omega⟩
theorem Room.deeper {k:Nat}{A:Around} (r:Room (k + 1) A) (env:Env):Room k (A.deeper env) :=
 ⟨r.hd,by have:=r.dp; show A.depth + 1 + 3 * k + 5 < _; omega,by have:=r.un; show A.units + 3 + 16 * k + 200 < _; omega⟩
theorem mq9 {A:Around}{C:Addr}{us:List Value}{kw:List (Str × Value)}:(A.under (.builtin "type.__call__" ⟨.ref C :: us,kw⟩)).depth=A.depth + 1:=by
 first | rfl | simp [Around.under,Code.weight,Code.isCreation,Code.isGuard,Code.isCaller,Code.frames,Code.isFrame,guardIds]
theorem nqq {A:Around}{C:Addr}{us:List Value}{kw:List (Str × Value)}:(A.under (.builtin "type.__call__" ⟨.ref C :: us,kw⟩)).units=A.units + 1:=by
 first | rfl | simp [Around.under,Code.cUnits,Code.frames,Code.isFrame]
theorem Room.make {k:Nat}{A:Around} (r:Room (k + 1) A) (C:Addr) (us:List Value) (kw:List (Str × Value)):Room k (A.under (.builtin "type.__call__" ⟨.ref C :: us,kw⟩)) :=
 ⟨r.hd,by have:=r.dp; rw [mq9]; omega,by have:=r.un; rw [nqq]; omega⟩
theorem Room.depth {k:Nat}{A:Around} (r:Room k A):A.depth < recursionLimit:=by have:=r.dp; omega
theorem Room.units {k:Nat}{A:Around} (r:Room k A):A.units + 64 < cLine:=by have:=r.un; omega
def tNil:TA:=fun _ H Q => Q [] H
def tCons (ta:TE) (tr:TA):TA:=fun σ H Q => ta σ H fun x H1 => tr σ H1 fun xs H2 => Q (x :: xs) H2
section
variable {X:Cx}{e:Expr}{es:List Expr}{te:TE}{t:TA}{pos:Pos}
theorem aqb:PA X [] tNil:=fun _ _ _ _ H Q I h => Calls.spliced_nil ⟨[],H,I,.nil,h⟩
theorem aqa (ha:PE X e te) (hr:PA X es t) (hs:starEach (e :: es) X.env=(false,eval e X.env) :: starEach es X.env:=by rfl):PA X (e :: es) (tCons te t):=by
 intro pos pins s σ H Q I h
 rw [hs]
 show wpAny _ _ (spliced ((false,eval e X.env) :: backTo pos (starEach es X.env))) _ _ s
 refine Calls.spliced_cons (thn (ha pins s σ H _ I h) fun u s1 W' => ?_)
 obtain ⟨x,H1,I1,r1,q1⟩:=W'
 exact thn (hr pos pins s1 σ H1 _ I1 q1) fun us s2 ⟨xs,H2,I2,r2,q2⟩ => ⟨x :: xs,H2,I2,.cons r1 r2,q2⟩
def tTup (t:TA):TE:=fun σ H Q => t σ H fun xs H1 => xs.length ≤ sizeLine∧∀ p,H1 p=none->Q (.ref p) (upd H1 p (.tup xs))
def tLst (t:TA):TE:=fun σ H Q => t σ H fun xs H1 => xs.length ≤ sizeLine∧∀ p,H1 p=none->Q (.ref p) (upd H1 p (.lst xs))
end
abbrev Sp:=List V->Hp->VK->XK->Prop
abbrev CXT:=List Env->Hp->Shared->XK->Value->Shared->Prop
structure Env0 (P:Program) (w:World) (K:PySem.W.Frag) (mg:Str->Option Value) (base:Heap) (A:Around) (outer:List Env) (s:Shared) (H:Hp):Prop where
 frames:A.frames=some outer
 mod:Mod K mg base
 bs:∀ b o,base.get? b=some o->s.heap.get? b=some o∧H b=none
 bsz:base.objs.size ≤ s.heap.objs.size
 funs:s.heap.FunFrames base outer
 frf:∀ b ∈ frs outer,H b=none
 hok:HOk P w H s.heap
 bare:AllBare s.gens
def CE (outer:List Env) (P:Program) (w:World) (H:Hp) (s:Shared) (Q:VK) (u:Value) (s':Shared):Prop :=
 ∃ v H',s'.os=s.os∧AllBare s'.gens∧Un (frs outer) [] H H' s.heap s'.heap∧HOk P w H' s'.heap∧RelV v u∧Q v H'
def CR (CX:CXT) (outer:List Env) (P:Program) (w:World) (H:Hp) (s:Shared) (Q:VK) (E:XK) (r:Result) (s':Shared):Prop :=
 match r with
 | .ok (.ret u) => CE outer P w H s Q u s'
 | .ok _ => False
 | .error e => CX outer H s E e s'
structure FnOk (P:Program) (w:World) (K:PySem.W.Frag) (mg:Str->Option Value) (base:Heap) (CX:CXT) (k:Nat) (f:Addr) (fd:FuncData) (ps:List Str) (sp:Sp):Prop where
 len:∀ vs H Q E,sp vs H Q E->vs.length=ps.length
 run:∀ (A:Around) (outer:List Env) (s:Shared) (H:Hp) (args:Args) (us:List Value) (vs:List V) (Q:VK) (E:XK),Room k A->Env0 P w K mg base A outer s H->BindsTo s fd args (ps.zip us)->Vals vs us->sp vs H Q E ->
  codeAny (model P w) A (.call (.ref f) args) (CR CX outer P w H s Q E) s
theorem Env0.make {P:Program}{w:World}{K:PySem.W.Frag}{mg:Str->Option Value}{base:Heap}{A:Around}{outer:List Env}{s:Shared}{H:Hp} (e:Env0 P w K mg base A outer s H) (C:Addr) (us:List Value) (kw:List (Str × Value)) :
  Env0 P w K mg base (A.under (.builtin "type.__call__" ⟨.ref C :: us,kw⟩)) outer s H:=⟨by first | exact e.frames | (simpa [Around.under,Code.envs,Code.isFrame,pushEnvs] using e.frames),e.mod,e.bs,e.bsz,e.funs,e.frf,e.hok,e.bare⟩
section
variable {X:Cx}{pins:List (Addr × Obj)}{σ:St}{H:Hp}{s s':Shared}
theorem Inv.env0 (I:Inv X pins σ H s):Env0 X.prog X.w X.K X.mg X.base X.A X.stack s H :=
 ⟨I.ok.frames,I.ok.mod,I.bs,Nat.le_trans I.ok.bsz I.sz,I.stack,I.stkFree,I.hok,I.bare⟩
theorem Inv.after {Q:VK}{u:Value} (I:Inv X pins σ H s) (h:CE X.stack X.prog X.w H s Q u s'):EP X pins σ Q u s':=by
 obtain ⟨v,H',os,bare,un,hok,r,q⟩:=h
 obtain ⟨hh,g,d,t,os'⟩:=s'
 obtain rfl:os'=s.os:=os
 exact ⟨v,H',I.call (h':=hh) (g':=g) (d':=d) (t':=t) (ch:=[]) un hok bare (fun b z => absurd z (by simp)),r,q⟩
end
def tCall (sp:Sp) (dvs:List V) (E:XK) (t:TA):TE:=fun σ H Q => t σ H fun vs H1 => sp (vs ++ dvs) H1 Q E
def tMeth (C:Addr) (m:Str) (sp:Sp) (dvs:List V) (E:XK) (ta:TE) (t:TA):TE:=fun σ H Q => ta σ H fun x H1 => ∃ a dx fs,x=.ref a∧H1 a=some (.ins C dx fs)∧fs.lookup m=none ∧
 t σ H1 fun vs H2 => sp (x :: (vs ++ dvs)) H2 Q E
def tMake (C:Addr) (sp:Sp) (dvs:List V) (E:XK) (t:TA):TE:=fun σ H Q => t σ H fun vs H1 => ∀ x dx,H1 x=none->H1 dx=none->dx ≠ x ->
 sp (.ref x :: (vs ++ dvs)) (upd (upd H1 dx (.own x)) x (.ins C dx [])) (fun v H2 => v=.non∧Q (.ref x) H2) E
def Binds (K:PySem.W.Frag) (fd:FuncData) (ps:List Str) (ds:List Value):Prop :=
 ∀ (s:Shared) (us:List Value),K.In s.heap->(us ++ ds).length=ps.length->BindsTo s fd ⟨us,[]⟩ (ps.zip (us ++ ds))
theorem Binds.all {K:PySem.W.Frag}{fd:FuncData}{ps:List Str} (h:∀ us:List Value,us.length=ps.length->bindArgs fd ⟨us,[]⟩=pure (ps.zip us)):Binds K fd ps []:=fun s us _ hl => by
 rw [List.append_nil] at hl ⊢
 exact .of_eq (h us hl)
def Passes (CX:CXT) (X:Cx) (E:XK):Prop:=∀ (pins:List (Addr × Obj)) (σ:St) (H:Hp) (s:Shared) (e:Value) (s':Shared),Inv X pins σ H s->CX X.stack H s E e s'->X.xe e s'
section
variable {X:Cx}{CX:CXT}{k:Nat}{f C:Addr}{fd:FuncData}{ps:List Str}{sp:Sp}{dvs:List V}{ds:List Value}{E:XK}{x m:Str}{p pos apos:Pos}{e o:Expr}{es:List Expr}{ta:TE}{t:TA}
theorem qq7 {pins:List (Addr × Obj)}{σ:St}{H:Hp}{s:Shared}{Q:VK}{us:List Value}{vs:List V} (F:FnOk X.prog X.w X.K X.mg X.base CX k f fd ps sp) (hr:Room k X.A) (hb:Binds X.K fd ps ds) (hd:Vals dvs ds) (hx:Passes CX X E)
  (I:Inv X pins σ H s) (r:Vals vs us) (h:sp (vs ++ dvs) H Q E):wpAny (model X.prog X.w) X.A (call (.ref f) us) (EP X pins σ Q) X.xe s:=by
 have r2:Vals (vs ++ dvs) (us ++ ds):=r.append hd
 have hl:(us ++ ds).length=ps.length:=by rw [<- r2.length]; exact F.len _ _ _ _ h
 refine wpAny_call (codeAny_mono (F.run X.A X.stack s H ⟨us,[]⟩ (us ++ ds) (vs ++ dvs) Q E hr I.env0 (hb s us I.kIn hl) r2 h) fun r s' hq => ?_)
 cases r with
 | error e => exact hx pins σ H s e s' I hq
 | ok fl =>
  cases fl with
  | ret u => exact I.after hq
  | next => exact False.elim hq
  | brk => exact False.elim hq
  | cont => exact False.elim hq
theorem aqj (F:FnOk X.prog X.w X.K X.mg X.base CX k f fd ps sp) (hr:Room k X.A) (hg:Gl X x) (hm:X.mg x=some (.ref f)) (hk:PySem.W.keepIn X.K (.ref f)=true) (hb:Binds X.K fd ps ds) (hd:Vals dvs ds) (hx:Passes CX X E)
  (ha:PA X (e :: es) t) (hdb:(x == ("__debug__" : Str))=false:=by decide) (he:starEach (e :: es) X.env=(false,eval e X.env) :: starEach es X.env:=by rfl) (hpl:(backTo pos (starEach es X.env)).any (·.1)=false:=by rfl) :
  PE X (.Call (.Name x p) (e :: es) [] pos) (tCall sp dvs E t):=by
 intro pins s σ H Q I h
 refine wpAny_Call_Name_kw (eqL I hg hm ?_ hdb)
 refine PySem.W.callWith_K (h₀:=X.base) I.ok.mod.kin hk (thn (ha pos pins s σ H _ I h) fun us s1 ⟨vs,H1,I1,r,q⟩ => ⟨I1.kIn,?_⟩) he hpl
 exact qq7 F hr hb hd hx I1 r q
theorem pqZ (F:FnOk X.prog X.w X.K X.mg X.base CX k f fd ps sp) (hr:Room k X.A) (hg:Gl X x) (hm:X.mg x=some (.ref f)) (hk:PySem.W.keepIn X.K (.ref f)=true) (hb:Binds X.K fd ps ds) (hd:Vals dvs ds) (hx:Passes CX X E)
  (hdb:(x == ("__debug__" : Str))=false:=by decide):PE X (.Call (.Name x p) [] [] pos) (tCall sp dvs E tNil):=by
 intro pins s σ H Q I h
 refine wpAny_Call_Name_kw (eqL I hg hm ?_ hdb)
 exact PySem.W.callWith_K0 I.kIn hk (qq7 (us:=[]) F hr hb hd hx I .nil h)
structure Mk (K:PySem.W.Frag) (C f:Addr):Prop where
 makes:PySem.W.makesIn K C=true
 init:PySem.W.findIn K (.ref C) "__init__" = some (some (.ref f))
 fn:PySem.W.isFn K (.ref f)=true
 kp:PySem.W.keepIn K (.ref C)=true
end
section
variable {X:Cx}{CX:CXT}{k:Nat}{f C:Addr}{fd:FuncData}{ps ks:List Str}{sp:Sp}{E:XK}{x m:Str}{p pos apos kpos:Pos}{e o:Expr}{es:List Expr}{kws:List Keyword}{te ta:TE}{t tk:TA}{nm:Option Str}
structure KBinds (K:PySem.W.Frag) (fd:FuncData) (ps ks:List Str) (g:List Value->List Value->List Value) (gV:List V->List V->List V):Prop where
 to:∀ (s:Shared) (us ws:List Value),K.In s.heap->(g us ws).length=ps.length->BindsTo s fd ⟨us,ks.zip ws⟩ (ps.zip (g us ws))
 rel:∀ {vs:List V}{us:List Value}{zs:List V}{ws:List Value},Vals vs us->Vals zs ws->Vals (gV vs zs) (g us ws)
variable {g:List Value->List Value->List Value}{gV:List V->List V->List V}
end
structure FnScope (N P:List Str) (sc:Scope):Prop where
 kind:sc.kind=.function
 co:sc.isCoroutine=false
 gen:sc.isGenerator=false
 nd:N.Nodup
 pre:N.take P.length=P
 par:∀ x ∈ P,sc.names.lookup x=some .local ∨ sc.names.lookup x=some .cell
 nofree:∀ y ∈ sc.names,y.2 ≠ .free
theorem kqx {kindOf:Str->Option NameKind}{x:Str}:∀ {binds:List (Str × Value)}{m:Str->Option Value},(∀ v,(x,v) ∉ binds)->bindL kindOf binds m x=m x
 | [],_,_ => rfl
 | (n,v) :: r,m,h => by
  unfold bindL
  rw [kqx fun w hw => h w (List.mem_cons_of_mem _ hw)]
  split
  ·have:x ≠ n:=by rintro rfl; exact h v List.mem_cons_self
   simp [this]
  ·rfl
theorem kqn {kindOf:Str->Option NameKind}{x:Str}:∀ {binds:List (Str × Value)}{m:Str->Option Value},(∀ v,(x,v) ∉ binds)->bindC kindOf binds m x=m x
 | [],_,_ => rfl
 | (n,v) :: r,m,h => by
  unfold bindC
  rw [kqn fun w hw => h w (List.mem_cons_of_mem _ hw)]
  split
  ·rfl
  ·have:x ≠ n:=by rintro rfl; exact h v List.mem_cons_self
   simp [this]
theorem kq6 {kindOf:Str->Option NameKind}{x:Str}{v:Value}:∀ {P:List Str}{vs:List Value}{i:Nat}{m:Str->Option Value},P.Nodup->P[i]?=some x->vs[i]?=some v->kindOf x=some .local ->
  bindL kindOf (P.zip vs) m x=some v
 | [],_,_,_,_,h,_,_ => by simp at h
 | _ :: _,[],_,_,_,_,h,_ => by simp at h
 | p :: P,w :: vs,0,m,nd,h1,h2,hk => by
  simp at h1 h2; subst h1; subst h2
  show bindL kindOf ((p,w) :: P.zip vs) m p=_
  unfold bindL
  rw [kqx fun v hv => (List.nodup_cons.mp nd).1 (List.of_mem_zip hv).1,if_pos hk]
  simp
 | p :: P,w :: vs,i + 1,m,nd,h1,h2,hk => by
  show bindL kindOf ((p,w) :: P.zip vs) m x=_
  unfold bindL
  exact kq6 (i:=i) (List.nodup_cons.mp nd).2 (by simpa using h1) (by simpa using h2) hk
theorem lqi {kindOf:Str->Option NameKind}{x:Str}{v:Value}:∀ {P:List Str}{vs:List Value}{i:Nat}{m:Str->Option Value},P.Nodup->P[i]?=some x->vs[i]?=some v->kindOf x ≠ some .local ->
  bindC kindOf (P.zip vs) m x=some v
 | [],_,_,_,_,h,_,_ => by simp at h
 | _ :: _,[],_,_,_,_,h,_ => by simp at h
 | p :: P,w :: vs,0,m,nd,h1,h2,hk => by
  simp at h1 h2; subst h1; subst h2
  show bindC kindOf ((p,w) :: P.zip vs) m p=_
  unfold bindC
  rw [kqn fun v hv => (List.nodup_cons.mp nd).1 (List.of_mem_zip hv).1,if_neg hk]
  simp
 | p :: P,w :: vs,i + 1,m,nd,h1,h2,hk => by
  show bindC kindOf ((p,w) :: P.zip vs) m x=_
  unfold bindC
  exact lqi (i:=i) (List.nodup_cons.mp nd).2 (by simpa using h1) (by simpa using h2) hk
def start (N:List Str) (vs:List V):St:=vs.map some ++ List.replicate (N.length - vs.length) none
def cxOf (CX:CXT) (P:Program) (w:World) (K:PySem.W.Frag) (mg:Str->Option Value) (base:Heap) (N:List Str) (qual:Str) (scope:Scope) (f:Addr) (cd:Value) (A:Around) (outer:List Env) (s:Shared) (H:Hp) (E:XK):Cx where
 prog:=P
 w:=w
 K:=K
 mg:=mg
 base:=base
 A:=A.deeper (envOfC qual scope s.heap.objs.size f cd)
 N:=N
 s₀:=s
 H₀:=H
 env:=envOfC qual scope s.heap.objs.size f cd
 outer:=outer
 stack:=envOfC qual scope s.heap.objs.size f cd :: outer
 ex:=[]
 calm:=true
 fn:=fun _ => true
 pn:=[]
 xe:=fun e s' => wpAny (model P w) (A.deeper (envOfC qual scope s.heap.objs.size f cd)) (leaving (envOfC qual scope s.heap.objs.size f cd) e) (fun _ s'' => CX outer H s E e s'') (fun e' s'' => CX outer H s E e' s'') s'
theorem mqc {sc:Scope}{n:Nat}{x:Str} (h:sc.names.lookup x=some .cell):∃ c,(cellsFrom n sc.names []).lookup x=some c:=by
 have q:=PySem.W.cellsFrom_some sc.names n [] (.inl h)
 exact Option.isSome_iff_exists.mp q
theorem oq3 {CX:CXT}{P:Program}{w:World}{K:PySem.W.Frag}{mg:Str->Option Value}{base:Heap}{N ps:List Str}{qual:Str}{scope:Scope}{f:Addr}{cd:Value}{A:Around}{outer:List Env}{s s1:Shared}{H:Hp}{E:XK}{us:List Value}{vs:List V}
  (S:FnScope N ps scope) (hd:A.handled=none) (e0:Env0 P w K mg base A outer s H) (hl:vs.length=ps.length) (r:Vals vs us)
  (x:InCallC s s.heap.objs.size (bindL (envOfC qual scope s.heap.objs.size f cd).kindOf (ps.zip us) fun _ => none) (cellsFrom (s.heap.objs.size + 1) scope.names []) (bindC (envOfC qual scope s.heap.objs.size f cd).kindOf (ps.zip us) fun _ => none) s1) :
  Inv (cxOf CX P w K mg base N qual scope f cd A outer s H E) [] (start N vs) H s1:=by
 have hpl:ps.length ≤ N.length:=by have:=congrArg List.length S.pre; rw [List.length_take] at this; omega
 obtain ⟨h1,tk,rfl,hk⟩:=x.done
 have noA:∀ b:Addr,b ∉ (cxOf CX P w K mg base N qual scope f cd A outer s H E).ex:=fun b z => absurd (show b ∈ ([]:List Addr) from z) (by simp)
 refine ⟨⟨e0.mod,S.kind,rfl,rfl,Nat.le_refl _,fun y z c h1 h2 => ?_,fun y hy => ?_,fun y c _ h => ?_,fun _ => hd,Around.frames_deeper e0.frames,.inr ⟨rfl,rfl⟩,fun b z => absurd z (noA b),e0.bs,e0.bsz,fun b _ _ => noA b,fun b z => absurd z (noA b),e0.funs,e0.frf⟩,
  rfl,e0.bare,Un.kept hk,⟨_,x.toInCall.ns,fun i y v h1 h2 h3 => ?_⟩,fun y c h => ⟨_,x.cell y c h⟩,e0.hok.fresh (Nat.le_refl _),fun y c h => ?_,fun p hp => absurd (show p ∈ ([]:List (Addr × Obj)) from hp) (by simp),e0.hok.kept hk,?_⟩
 ·exact name_of_addr x.apart (PySem.mem_of_lookup h1) (PySem.mem_of_lookup h2)
 ·have hy:scope.names.lookup y=some .cell ∨ scope.names.lookup y=some .free:=hy
  rcases hy with hy | hy
  ·exact mqc hy
  ·exact absurd rfl (S.nofree _ (PySem.mem_of_lookup hy))
 ·exact Nat.le_of_lt (x.above y c (PySem.mem_of_lookup h))
 ·have hi:i < vs.length:=by
   unfold start at h2
   by_cases hi:i < vs.length
   ·exact hi
   ·rw [List.getElem?_append_right (by simpa using hi)] at h2
    rw [List.getElem?_replicate] at h2
    split at h2 <;> cases h2
  have ha:vs[i]?=some v:=by
   unfold start at h2
   rw [List.getElem?_append_left (by simpa using hi),List.getElem?_map] at h2
   cases e:vs[i]? with
   | none => rw [e] at h2; cases h2
   | some a => rw [e] at h2; cases h2; rfl
  obtain ⟨u,hu,rv⟩:=r.get ha
  have hp:ps[i]?=some y:=by
   rw [<- S.pre,List.getElem?_take_of_lt (by omega)]; exact h1
  have ndP:ps.Nodup:=by rw [<- S.pre]; exact S.nd.sublist (List.take_sublist _ _)
  refine ⟨u,rv,?_⟩
  rcases S.par y (List.mem_of_getElem? hp) with k | k
  ·exact .inl ⟨k,kq6 ndP hp hu k⟩
  ·obtain ⟨c,e⟩:=mqc (n:=s.heap.objs.size + 1) k
   refine .inr ⟨.inl k,c,e,?_⟩
   have q:=x.cell y c e
   rw [lqi ndP hp hu (by show scope.names.lookup y ≠ _; rw [k]; decide)] at q
   exact q
 ·exact e0.hok.fresh (Nat.le_of_lt (x.above y c (PySem.mem_of_lookup h)))
 ·unfold start
  show _=N.length
  rw [List.length_append,List.length_map,List.length_replicate]
  omega
theorem uqu {CX:CXT}{P:Program}{w:World}{K:PySem.W.Frag}{mg:Str->Option Value}{base:Heap}{k:Nat}{f:Addr}{name qual:Str}{params:Arguments}{body:List Stmt}{scope:Scope}{dV kV doc pm cdv ct oc:Value}{an od:Option Addr}
  {osl:Array (Option Value)}{N ps:List Str}{sp:Sp} (lk:K.lookup f=some ⟨oc,od,.func (PySem.W.fnOf name qual params body scope dV kV doc pm an cdv ct),osl⟩) (hcd:PySem.W.codeIn K cdv qual=true) (S:FnScope N ps scope)
  (len:∀ vs H Q E,sp vs H Q E->vs.length=ps.length)
  (hbody:∀ (A:Around) (outer:List Env) (s:Shared) (H:Hp) (vs:List V) (Q:VK) (E:XK),Room k (A.deeper (envOfC qual scope s.heap.objs.size f cdv))->sp vs H Q E ->
   ∃ t,PSs (cxOf CX P w K mg base N qual scope f cdv A outer s H E) body t∧t { nx:=fun _ H' => Q .non H',rt:=Q } (start N vs) H) :
  FnOk P w K mg base CX (k + 1) f (PySem.W.fnOf name qual params body scope dV kV doc pm an cdv ct) ps sp:=by
 refine ⟨len,fun A outer s H args us vs Q E hr e0 hb r hsp => ?_⟩
 have hl:=len _ _ _ _ hsp
 have KX:K.In s.heap:=e0.mod.kin.keeps fun b o e => (e0.bs b o e).1
 have lim:s.heap.NoLimit:=e0.mod.nolimit.keeps fun b o e => (e0.bs b o e).1
 have hkind:∀ y ∈ ps.zip us,scope.names.lookup y.1=some .local ∨ (scope.names.lookup y.1=some .cell∧((cellsFrom (s.heap.objs.size + 1) scope.names []).lookup y.1).isSome=true):=fun ⟨n,v⟩ hy => by
  rcases S.par n (List.of_mem_zip hy).1 with q | q
  ·exact .inl q
  ·exact .inr ⟨q,PySem.W.cellsFrom_some _ _ _ (.inl q)⟩
 refine codeAny_call_function hr.depth (KX _ _ lk) rfl S.co S.gen rfl (PySem.W.codeRec_of KX hcd) (hb _ _ _ _ ?_)
 refine wpAny_newFunctionEnv_cells S.kind hkind fun env he s1 x => ?_
 subst he
 refine ⟨lim.keeps x.toInCall.keep,codeAny_func ?_⟩
 obtain ⟨t,ht,hq⟩:=hbody A outer s H vs Q E (hr.deeper _) hsp
 have I:Inv (cxOf CX P w K mg base N qual scope f cdv A outer s H E) [] (start N vs) H s1:=oq3 S hr.hd e0 hl r x
 refine wpAny_mono (ht [] s1 (start N vs) H _ I hq) (fun fl s' hs => ?_) fun e s' hs => hs
 have fin:∀ {σ':St}{H':Hp}{v:V}{u:Value},Inv (cxOf CX P w K mg base N qual scope f cdv A outer s H E) [] σ' H' s'->RelV v u->Q v H'->CE outer P w H s Q u s' :=
  fun {σ' H' v u} J rv q => ⟨v,H',J.os,J.bare,J.base,J.hok,rv,q⟩
 cases fl with
 | ret u =>
  obtain ⟨v,σ',H',J,rv,q⟩:=hs
  exact fin J rv q
 | next =>
  obtain ⟨σ',H',J,q⟩:=hs
  exact fin (v:=V.non) (u:=Value.none) J rfl q
 | brk =>
  obtain ⟨_,_,_,q⟩:=hs
  exact False.elim q
 | cont =>
  obtain ⟨_,_,_,q⟩:=hs
  exact False.elim q
section
variable {X:Cx}{x:Str}{p pos:Pos}{e:Expr}{es:List Expr}{t:TA}{id T:String}{r:List V->Hp->VK->Prop}
def tCB (r:List V->Hp->VK->Prop) (t:TA):TE:=fun σ H Q => t σ H fun vs H1 => r vs H1 Q
theorem aqs (hc:CallR X (.builtin id) r) (hg:Gl X x) (hm:X.mg x=none) (hv:bootBuiltins x=some (.builtin id)) (ha:PA X (e :: es) t) (hn:x ≠ "__name__" := by decide) (hdb:(x == ("__debug__" : Str))=false:=by decide)
  (he:starEach (e :: es) X.env=(false,eval e X.env) :: starEach es X.env:=by rfl) (hpl:(backTo pos (starEach es X.env)).any (·.1)=false:=by rfl):PE X (.Call (.Name x p) (e :: es) [] pos) (tCB r t):=by
 intro pins s σ H Q I h
 refine wpAny_Call_Name_kw (iqb I hg hm hv ?_ hn hdb)
 exact PyProof.Rows.callWith_builtin1 (thn (ha pos pins s σ H _ I h) fun us s1 ⟨vs,H1,I1,r1,q1⟩ => hc pins s1 σ H1 vs us Q I1 r1 q1) he hpl
theorem bqT (hc:CallR X (.type T) r) (hg:Gl X x) (hm:X.mg x=none) (hv:bootBuiltins x=some (.type T)) (ha:PA X (e :: es) t) (hn:x ≠ "__name__" := by decide) (hdb:(x == ("__debug__" : Str))=false:=by decide)
  (he:starEach (e :: es) X.env=(false,eval e X.env) :: starEach es X.env:=by rfl) (hpl:(backTo pos (starEach es X.env)).any (·.1)=false:=by rfl):PE X (.Call (.Name x p) (e :: es) [] pos) (tCB r t):=by
 intro pins s σ H Q I h
 refine wpAny_Call_Name_kw (iqb I hg hm hv ?_ hn hdb)
 exact PyProof.Rows.callWith_type1 (thn (ha pos pins s σ H _ I h) fun us s1 ⟨vs,H1,I1,r1,q1⟩ => hc pins s1 σ H1 vs us Q I1 r1 q1) he hpl
end
end L2
namespace HT
open PySem PyProof.Rows
def lexLt:List Int->List Int->Bool
 | [],[] => false
 | [],_ :: _ => true
 | _ :: _,[] => false
 | x :: xs,y :: ys => if x=y then lexLt xs ys else decide (x < y)
theorem nqa (x y:Int) (xs ys:List Int):lexLt (x :: xs) (y :: ys)=if x=y then lexLt xs ys else decide (x < y):=rfl
theorem kqm:lexLt [] []=false:=rfl
theorem iqE (y:Int) (ys:List Int):lexLt [] (y :: ys)=true:=rfl
theorem iqL (x:Int) (xs:List Int):lexLt (x :: xs) []=false:=rfl
theorem qqW (A:Around) (s:Shared) (a:Int) (t:Tok) (c:Int) (u:Tok):∃ e,SeqAt.EqAt A s (.int a t) (.int c u) e∧(e=true ↔ a=c) :=
 ⟨(a == c),SeqAt.EqAt.int_int a t c u,by simp⟩
section
open PySem.SeqAt
open PySem.AutoSeq1 (wpAny_loadPart')
open PySem.MeetsSeq PySem.MeetsSeq2 PySem.MeetsSeq3
end
section
variable {prog:Program}{w:World}{A:Around}{E:Value->Shared->Prop}{s:Shared}
theorem cat_tup {t b:Addr}{vs ws:List Value}{Q:Value->Shared->Prop} (ht:IsTup s.heap t vs.toArray) (hb:IsTup s.heap b ws.toArray) (hv:vs ≠ [])
  (h1:ws=[]->Q (.ref t) s) (h2:ws ≠ []->Q (.ref s.heap.objs.size) { s with heap:=s.heap.push { cls:=.type "tuple",data:=.seq (vs ++ ws).toArray } })
  (hsz:vs.length + ws.length ≤ sizeLine):wpAny (model prog w) A (binaryOp .Add (.ref t) (.ref b)) Q E s:=by
 obtain ⟨⟨cls,dd,data,sl⟩,ho,hc,n,hd⟩:=id ht
 obtain ⟨⟨cls2,dd2,data2,sl2⟩,ho2,hc2,n2,hd2⟩:=id hb
 simp only at hc hd hc2 hd2
 subst hc hd hc2 hd2
 have e:vs.toArray ++ ws.toArray=(vs ++ ws).toArray:=by simp
 by_cases hw:ws=[]
 ·exact concat_meets ⟨_,ho,rfl⟩ ⟨_,ho2,rfl⟩ noFill_tuple_add seq_tuple_add PySem.F.slot_tuple_add PySem.F.entry_tuple_add (PySem.F.args_tuple_add_2 _ _)
   (tuple_addW1 t b vs.toArray ws.toArray n n2 dd dd2 sl sl2 (by simpa using hv) (by simp [hw])) ⟨ho,ho2,h1 hw⟩
 ·refine concat_meets ⟨_,ho,rfl⟩ ⟨_,ho2,rfl⟩ noFill_tuple_add seq_tuple_add PySem.F.slot_tuple_add PySem.F.entry_tuple_add (PySem.F.args_tuple_add_2 _ _)
   (tuple_addW2 t b vs.toArray ws.toArray n n2 dd dd2 sl sl2 (by simpa using hv) (by simpa using hw) (by rw [List.size_toArray,List.size_toArray]; exact hsz)) ⟨ho,ho2,?_⟩
  rw [e]
  exact h2 hw
def sIx (n d:Nat):Option Int->Nat
 | none => d
 | some v => if v < 0 then (v + (n:Int)).toNat else min v.toNat n
theorem sIx_none (n d:Nat):sIx n d none=d:=rfl
theorem sIx_nat (n d k:Nat):sIx n d (some (k:Int))=min k n:=by
 show (if (k:Int) < 0 then ((k:Int) + (n:Int)).toNat else min (k:Int).toNat n)=min k n
 rw [if_neg (by omega),Int.toNat_natCast]
theorem uqL (n d:Nat) (hd:d ≤ n) (o:Option Int):sIx n d o ≤ n:=by
 cases o with
 | none => exact hd
 | some v =>
  show (if v < 0 then (v + (n:Int)).toNat else min v.toNat n) ≤ n
  by_cases hv:v < 0
  ·rw [if_pos hv]; omega
  ·rw [if_neg hv]; exact Nat.min_le_right _ _
theorem oqY (v:Int) (n d:Nat):(if v < 0 then max (v + (n:Int)) 0 else min v (n:Int))=((sIx n d (some v):Nat):Int):=by
 show (if v < 0 then max (v + (n:Int)) 0 else min v (n:Int))=(((if v < 0 then (v + (n:Int)).toNat else min v.toNat n):Nat):Int)
 by_cases hv:v < 0
 ·simp only [if_pos hv]; omega
 ·simp only [if_neg hv]; omega
theorem nqA (lo hi:Option Int) (n:Nat):Builtin.Slice.sliceAdjust lo hi 1 (n:Int)=(((sIx n 0 lo:Nat):Int),((sIx n n hi:Nat):Int)):=by
 have h1:¬ ((1:Int) < 0):=by omega
 unfold Builtin.Slice.sliceAdjust
 simp only [h1,if_false]
 refine Prod.ext ?_ ?_
 ·cases lo with
  | none => rfl
  | some v => exact oqY v n 0
 ·cases hi with
  | none => rfl
  | some v => exact oqY v n n
theorem nqD (i j:Nat):Builtin.Slice.slicePlaces (i:Int) (j:Int) 1=j - i:=by
 unfold Builtin.Slice.slicePlaces
 have h1:(1:Int) > 0:=by omega
 simp only [h1,if_true,Int.ediv_one]
 split <;> omega
theorem iqQ {v:Value}{o:Option Int}{Q:Option Int->Shared->Prop} (p:IsPart v o) (h:Q o s):wpAny (model prog w) A (Builtin.Slice.slicePartIndex v) Q E s:=by
 cases p with
 | none => exact slicePart_none h
 | int i t => exact slicePart_int h
theorem eqw {sl:Addr}{vl vu:Value}{lo hi:Option Int}{n:Nat}{Q:Int × Int × Nat->Shared->Prop} (hs:s.heap.IsSliceOf sl vl vu .none) (pl:IsPart vl lo) (pu:IsPart vu hi)
  (h:Q (((sIx n 0 lo:Nat):Int),1,sIx n n hi - sIx n 0 lo) s):wpAny (model prog w) A (Builtin.Slice.sliceApplied (.ref sl) (pure (n:Int))) Q E s:=by
 obtain ⟨os,hos,hcs,hds⟩:=id hs
 unfold Builtin.Slice.sliceApplied Builtin.Slice.sliceFields
 refine wpAny_bind (wpAny_bind (wpAny_field hos hds (x:=vl) rfl (wpAny_bind (wpAny_field hos hds (x:=vu) rfl (wpAny_bind (wpAny_field hos hds (x:=.none) rfl (wpAny_pure ?_)))))))
 refine wpAny_bind (slicePart_none ?_)
 show wpAny _ _ (if ((1:Int) == 0)=true then _ else _) _ _ s
 rw [if_neg (by decide)]
 refine wpAny_bind (iqQ pl (wpAny_bind (iqQ pu (wpAny_bind (wpAny_pure ?_)))))
 show wpAny _ _ (match Builtin.Slice.sliceAdjust lo hi 1 (n:Int) with | (lo,hi) => pure (lo,(1:Int),Builtin.Slice.slicePlaces lo hi 1)) _ _ s
 rw [nqA lo hi n]
 show wpAny _ _ (pure (((sIx n 0 lo:Nat):Int),(1:Int),Builtin.Slice.slicePlaces ((sIx n 0 lo:Nat):Int) ((sIx n n hi:Nat):Int) 1)) _ _ s
 rw [nqD]
 exact wpAny_pure h
theorem pqS (xs:Array Value) (i k:Nat):((List.range k).filterMap fun (m:Nat) => xs[((i:Int) + (m:Int) * 1).toNat]?).toArray=((xs.toList.drop i).take k).toArray:=by
 have e:(fun (m:Nat) => xs[((i:Int) + (m:Int) * 1).toNat]?)=fun m => xs[i + m]?:=by
  funext m
  have:((i:Int) + (m:Int) * 1).toNat=i + m:=by omega
  rw [this]
 rw [e]
 have:=pick_run xs i k
 rw [List.filterMap_map] at this
 have e2:((fun x => xs[x]?) ∘ fun x => i + x)=fun m => xs[i + m]?:=rfl
 rw [e2] at this
 rw [this]
theorem getItem_tuple_cut {t sl:Addr}{items:Array Value}{vl vu:Value}{lo hi:Option Int}{Q:Value->Shared->Prop} (ht:IsTup s.heap t items) (hs:s.heap.IsSliceOf sl vl vu .none) (pl:IsPart vl lo) (pu:IsPart vu hi)
  (hw:¬ (sIx items.size 0 lo=0∧sIx items.size items.size hi=items.size))
  (h:Q (.ref s.heap.objs.size) { s with heap:=s.heap.push { cls:=.type "tuple",data:=.seq ((items.toList.drop (sIx items.size 0 lo)).take (sIx items.size items.size hi - sIx items.size 0 lo)).toArray } })
  (hsz:items.size ≤ sizeLine):wpAny (model prog w) A (getItem (.ref t) (.ref sl)) Q E s:=by
 have htake:sizeOk (.seq ((items.toList.drop (sIx items.size 0 lo)).take (sIx items.size items.size hi - sIx items.size 0 lo)).toArray):=by
  show ((items.toList.drop (sIx items.size 0 lo)).take (sIx items.size items.size hi - sIx items.size 0 lo)).toArray.size ≤ sizeLine
  rw [List.size_toArray,List.length_take,List.length_drop,Array.length_toList]
  omega
 have hj:sIx items.size items.size hi ≤ items.size:=uqL _ _ (Nat.le_refl _) hi
 obtain ⟨os,hos,hcs,hds⟩:=id hs
 have hTs:s.TypeIs (.ref sl) "slice" := ⟨os,hos,hcs⟩
 unfold getItem
 try with_reducible refine wpAny_holding ?_
 first | refine wpAny_bind (wpAny_pure ?_) | skip
 refine wpAny_bind (wpAny_sequenceKey ht.typeIs (by decide) ?_)
 refine wpAny_bind (wpAny_callSpecial?_slot (name:=Str.ofString "__getitem__") ht.typeIs PyProof.Rows.slot_tuple_getitem
  (wpAny_call_entry PyProof.Rows.slot_tuple_getitem ht.typeIs entry_tuple_getitem ?_ (args_tuple_getitem _ _)))
 show wpAny _ _ (Builtin.Tuple.tupleItemsOf (.ref t) >>= _) _ _ s
 refine wpAny_bind (tupleItemsOf_ ht ?_)
 refine wpAny_bind (wpAny_typeOf hTs ?_)
 rw [if_pos (by decide)]
 refine wpAny_bind (eqw hs pl pu ?_)
 have hno:¬ ((((sIx items.size 0 lo:Nat):Int) == 0 && (1:Int) == 1 && (sIx items.size items.size hi - sIx items.size 0 lo) == items.size)=true):=by
  intro q
  rw [Bool.and_eq_true,Bool.and_eq_true] at q
  have q1:((sIx items.size 0 lo:Nat):Int)=0:=eq_of_beq q.1.1
  have q2:sIx items.size items.size hi - sIx items.size 0 lo=items.size:=eq_of_beq q.2
  exact hw ⟨by omega,by omega⟩
 show wpAny _ _ (if (((sIx items.size 0 lo:Nat):Int) == 0 && (1:Int) == 1 && (sIx items.size items.size hi - sIx items.size 0 lo) == items.size)=true then _ else _) _ _ s
 rw [if_neg hno,pqS]
 first
  | exact wpAny_bind (m:=Builtin.Tuple.tupleExact _) (wpAny_newObj_type (wpAny_pure ⟨_,rfl,wpAny_pure h⟩) htake)
  | exact wpAny_bind (m:=Builtin.Tuple.tupleExact _) (wpAny_newObj_type (wpAny_bind (wpAny_pure (wpAny_pure ⟨_,rfl,wpAny_pure h⟩))) htake)
  | exact wpAny_bind (wpAny_bind (m:=Builtin.Tuple.tupleExact _) (wpAny_newObj_type (wpAny_pure (wpAny_pure ⟨_,rfl,wpAny_pure h⟩)) htake))
  | exact wpAny_bind (wpAny_bind (m:=Builtin.Tuple.tupleExact _) (wpAny_newObj_type (wpAny_pure ⟨_,rfl,wpAny_pure h⟩) htake))
end
end HT
namespace L2
open PySem PySem.Spec PyProof.Rows
abbrev TO:=St->Hp->(Option Int->Hp->Prop)->Prop
def PO (X:Cx) (e:Option Expr) (t:TO):Prop :=
 ∀ (pins:List (Addr × Obj)) (s:Shared) (σ:St) (H:Hp) (Q:Option Int->Hp->Prop),Inv X pins σ H s->t σ H Q ->
  wpAny (model X.prog X.w) X.A (evalPart e X.env) (fun u s' => ∃ o H',Inv X pins σ H' s'∧IsPart u o∧Q o H') X.xe s
def tNoPart:TO:=fun _ H Q => Q none H
def tPart (t:TE):TO:=fun σ H Q => t σ H fun x H1 => ∃ i,x=.int i∧Q (some i) H1
theorem fqt {ns:List Int}:∀ {us:List Value},Vals (ns.map V.int) us->IntsAre us ns:=by
 induction ns with
 | nil => intro us r; rw [List.map_nil] at r; cases r; exact .nil
 | cons n ns ih =>
  intro us r
  rw [List.map_cons] at r
  cases r with
  | cons r1 r2 =>
   obtain ⟨t,e⟩:=r1
   subst e
   exact .cons n t (ih r2)
section
variable {X:Cx}{e:Expr}{te:TE}{lo hi:Option Expr}{tl th:TO}{pos p2:Pos}
theorem cqW:PO X none tNoPart:=by
 intro pins s σ H Q I h
 rw [evalPart_none]
 exact wpAny_pure ⟨none,H,I,.none,h⟩
theorem bqD (h:PE X e te):PO X (some e) (tPart te):=by
 intro pins s σ H Q I hw
 rw [evalPart_some]
 refine thn (h pins s σ H _ I hw) fun u s1 W' => ?_
 obtain ⟨x,H1,I1,r1,q1⟩:=W'
 obtain ⟨i,rfl,q⟩:=q1
 obtain ⟨t,rfl⟩:=r1
 exact ⟨some i,H1,I1,.int i t,q⟩
def SlR (X:Cx) (r:V->Option Int->Option Int->Hp->VK->Prop):Prop :=
 ∀ (pins:List (Addr × Obj)) (s:Shared) (σ:St) (H:Hp) (x:V) (v vl vu:Value) (lo hi:Option Int) (sl:Addr) (Q:VK),Inv X pins σ H s->RelV x v->s.heap.IsSliceOf sl vl vu .none->IsPart vl lo->IsPart vu hi->r x lo hi H Q ->
  ∃ T id,typeLookup (.type T) "__getitem__" = pure (some (.builtin id))∧s.TypeIs v T∧wpAny (model X.prog X.w) X.A (getItem v (.ref sl)) (EP X pins σ Q) X.xe s
theorem SlR.or {r r':V->Option Int->Option Int->Hp->VK->Prop} (h:SlR X r) (h':SlR X r'):SlR X (fun x lo hi H Q => r x lo hi H Q ∨ r' x lo hi H Q):=by
 intro pins s σ H x v vl vu lo hi sl Q I rx hs pl pu q
 rcases q with q | q
 ·exact h pins s σ H x v vl vu lo hi sl Q I rx hs pl pu q
 ·exact h' pins s σ H x v vl vu lo hi sl Q I rx hs pl pu q
def tSl (r:V->Option Int->Option Int->Hp->VK->Prop) (te:TE) (tl th:TO):TE:=fun σ H Q => te σ H fun x H1 => tl σ H1 fun l H2 => th σ H2 fun u H3 => r x l u H3 Q
theorem cqd {r:V->Option Int->Option Int->Hp->VK->Prop} (hr:SlR X r) (he:PE X e te) (hl:PO X lo tl) (hu:PO X hi th):PE X (.Subscript e (.Slice lo hi none p2) pos) (tSl r te tl th):=by
 intro pins s σ H Q I h
 refine Subscript_ (thn (he pins s σ H _ I h) fun v s1 W' => ?_)
 obtain ⟨x,H1,I1,r1,q1⟩:=W'
 refine wpAny_Slice (thn (hl pins s1 σ H1 _ I1 q1) fun vl s2 ⟨l,H2,I2,pl,q2⟩ => thn (hu pins s2 σ H2 _ I2 q2) fun vu s3 W' => ?_)
 obtain ⟨u,H3,I3,pu,q3⟩:=W'
 rw [evalPart_none]
 refine wpAny_pure ?_
 have I4:Inv X pins σ H3 { s3 with heap:=s3.heap.push { cls:=.type "slice",data:=.fields #[vl,vu,.none] } }:=I3.kept (t':=s3.toks) fun b ob q => Heap.get?_push_of_some _ q
 obtain ⟨T,id,hT,ht,hg⟩:=hr pins { s3 with heap:=s3.heap.push { cls:=.type "slice",data:=.fields #[vl,vu,.none] } } σ H3 x v vl vu l u s3.heap.objs.size Q I4 r1 (Heap.IsSliceOf.new ..) pl pu q3
 show wpAny (model X.prog X.w) X.A (subscriptTail e (.Slice lo hi none p2) v (.ref s3.heap.objs.size)) (EP X pins σ Q) X.xe { s3 with heap:=s3.heap.push { cls:=.type "slice",data:=.fields #[vl,vu,.none] } }
 exact tail_any (ops:=[.ref s3.heap.objs.size,v]) ht hT hg (by with_unfolding_all rfl)
def cutV (xs:List V) (lo hi:Option Int):List V:=(xs.drop (HT.sIx xs.length 0 lo)).take (HT.sIx xs.length xs.length hi - HT.sIx xs.length 0 lo)
theorem hq5 (xs:List V) (lo hi:Option Int):(cutV xs lo hi).length ≤ xs.length:=by
 unfold cutV
 rw [List.length_take,List.length_drop]
 omega
def rSlT (K:PySem.W.Frag):V->Option Int->Option Int->Hp->VK->Prop:=fun x lo hi H Q => ∃ a xs,x=.ref a∧SqT K H a xs ∧
 ¬ (HT.sIx xs.length 0 lo=0∧HT.sIx xs.length xs.length hi=xs.length)∧∀ p,H p=none->Q (.ref p) (upd H p (.tup (cutV xs lo hi)))
theorem uqh:SlR X (rSlT X.K):=by
 intro pins s σ H x v vl vu lo hi sl Q I rx hs pl pu h
 obtain ⟨a,xs,rfl,hx,hw,q⟩:=h
 cases rx
 obtain ⟨its,r,ht,hz⟩:=I.tuple hx
 have hlen:its.toArray.size=xs.length:=by rw [List.size_toArray]; exact r.length.symm
 refine ⟨"tuple",_,PyProof.Rows.slot_tuple_getitem.lookup,ht.typeIs,?_⟩
 refine HT.getItem_tuple_cut ht hs pl pu (by rw [hlen]; exact hw) ?_ (by rw [hlen]; exact hz)
 rw [hlen]
 refine ⟨.ref s.heap.objs.size,_,I.laid (t':=s.toks) (o:=.tup (cutV xs lo hi)) (fun b ob q => Heap.get?_push_of_some _ q) (Nat.le_refl _) ?_,rfl,q _ (I.hok.fresh (Nat.le_refl _))⟩
 exact ⟨Nat.le_trans (hq5 xs lo hi) hz,_,(r.drop (HT.sIx xs.length 0 lo)).take (HT.sIx xs.length xs.length hi - HT.sIx xs.length 0 lo),IsTup.new _ _⟩
def rCatT (K:PySem.W.Frag):R2:=fun x y H Q => ∃ a b xs ys,x=.ref a∧y=.ref b∧SqT K H a xs∧SqT K H b ys∧xs ≠ []∧xs.length + ys.length ≤ sizeLine ∧
 (ys=[]->Q (.ref a) H)∧(ys ≠ []->∀ p,H p=none->Q (.ref p) (upd H p (.tup (xs ++ ys))))
theorem Vals.nil_iff {xs:List V}{us:List Value} (r:Vals xs us):us=[] ↔ xs=[]:=by
 cases r with
 | nil => simp
 | cons _ _ => simp
theorem sqM:OpR X (binaryOp .Add) (rCatT X.K):=by
 intro pins s σ H x y v u Q I rx ry h
 obtain ⟨a,b,xs,ys,rfl,rfl,ha,hb,hx,hz,q1,q2⟩:=h
 cases rx
 cases ry
 obtain ⟨its,r1,p1,_⟩:=I.tuple ha
 obtain ⟨its2,r2,p2,_⟩:=I.tuple hb
 refine HT.cat_tup p1 p2 (fun z => hx (r1.nil_iff.mp z)) (fun z => ⟨.ref a,H,I,rfl,q1 (r2.nil_iff.mp z)⟩) (fun z => ?_) (by rw [<- r1.length,<- r2.length]; exact hz)
 refine ⟨.ref s.heap.objs.size,_,I.laid (t':=s.toks) (o:=.tup (xs ++ ys)) (fun b ob q => Heap.get?_push_of_some _ q) (Nat.le_refl _) ?_,rfl,q2 (fun w => z (r2.nil_iff.mpr w)) _ (I.hok.fresh (Nat.le_refl _))⟩
 exact ⟨by rw [List.length_append]; exact hz,_,r1.append r2,IsTup.new _ _⟩
end
def ixN (n:Nat) (i:Int):Option Nat:=if 0 ≤ i then (if i < n then some i.toNat else none) else if -(n:Int) ≤ i then some (i + n).toNat else none
def atI {α:Type} (xs:List α) (i:Int):Option α:=(ixN xs.length i).bind fun j => xs[j]?
theorem oqN {n:Nat}{i:Int}{j:Nat} (h:ixN n i=some j):seqIndex? i n=some j∧j < n∧-(n:Int) ≤ i∧i < n:=by
 unfold ixN at h
 by_cases h0:0 ≤ i
 ·rw [if_pos h0] at h
  by_cases h1:i < n
  ·rw [if_pos h1] at h
   have e:i.toNat=j:=Option.some.inj h
   exact ⟨by rw [seqIndex_of h0 h1,e],by omega,by omega,h1⟩
  ·rw [if_neg h1] at h; cases h
 ·rw [if_neg h0] at h
  by_cases h1:-(n:Int) ≤ i
  ·rw [if_pos h1] at h
   have e:(i + n).toNat=j:=Option.some.inj h
   exact ⟨by rw [seqIndex_neg (by omega) h1,e],by omega,h1,by omega⟩
  ·rw [if_neg h1] at h; cases h
theorem lqT {α:Type}{xs:List α}{i:Int}{v:α} (h:atI xs i=some v):∃ j,seqIndex? i xs.length=some j∧xs[j]?=some v∧j < xs.length∧-(xs.length:Int) ≤ i∧i < xs.length:=by
 unfold atI at h
 cases e:ixN xs.length i with
 | none => rw [e] at h; cases h
 | some j =>
  rw [e] at h
  obtain ⟨h1,h2,h3,h4⟩:=oqN e
  exact ⟨j,h1,h,h2,h3,h4⟩
theorem aqi {α:Type}{xs:List α}{j:Nat}{v:α} (h:xs[j]?=some v):atI xs (j:Int)=some v:=by
 have hj:j < xs.length:=(List.getElem?_eq_some_iff.mp h).1
 have e:ixN xs.length (j:Int)=some j:=by
  unfold ixN
  rw [if_pos (by omega),if_pos (by omega)]; simp
 unfold atI; rw [e]; exact h
def PlainIx (b:Expr):Prop:=∀ o i,subscripted b false o i=operate [o,i] (getItem o i)
def IxR (X:Cx) (r:R2):Prop :=
 ∀ (value slice:Expr) (pins:List (Addr × Obj)) (s:Shared) (σ:St) (H:Hp) (x y:V) (v u:Value) (Q:VK),Inv X pins σ H s->RelV x v->RelV y u->r x y H Q ->
  subscripted slice false v u=operate [v,u] (getItem v u)->wpAny (model X.prog X.w) X.A (subscriptTail value slice v u) (EP X pins σ Q) X.xe s
def MtR (X:Cx) (id:String) (r:V->List V->Hp->VK->Prop):Prop :=
 ∀ (pins:List (Addr × Obj)) (s:Shared) (σ:St) (H:Hp) (x:V) (xs:List V) (v:Value) (us:List Value) (Q:VK),Inv X pins σ H s->RelV x v->Vals xs us->r x xs H Q ->
  wpAny (model X.prog X.w) X.A (call (.builtin id) (v :: us)) (EP X pins σ Q) X.xe s
section
variable {X:Cx}{a b:Expr}{ta tb:TE}{pos:Pos}
theorem IxR.or {r r':R2} (h:IxR X r) (h':IxR X r'):IxR X (fun x y H Q => r x y H Q ∨ r' x y H Q):=by
 intro value slice pins s σ H x y v u Q I rx ry q hs
 rcases q with q | q
 ·exact h value slice pins s σ H x y v u Q I rx ry q hs
 ·exact h' value slice pins s σ H x y v u Q I rx ry q hs
theorem aqo {r:R2} (hr:IxR X r) (ha:PE X a ta) (hb:PE X b tb) (hs:PlainIx b):PE X (.Subscript a b pos) (tOp r ta tb):=by
 intro pins s σ H Q I h
 exact Subscript_ (binT ha hb I h fun v u s2 x y H2 I2 rx ry q => hr a b pins s2 σ H2 x y v u Q I2 rx ry q (hs _ _))
def rIxL (K:PySem.W.Frag):R2:=fun x y H Q => ∃ p xs i v,x=.ref p∧y=.int i∧SqL K H p xs∧atI xs i=some v∧Q v H
def rIxT (K:PySem.W.Frag):R2:=fun x y H Q => ∃ p xs i v,x=.ref p∧y=.int i∧SqT K H p xs∧atI xs i=some v∧Q v H
def rIxS:R2:=fun x y H Q => ∃ z i c,x=.str z∧y=.int i∧z.length ≤ sizeLine∧atI z.cps.toList i=some c∧Q (.str ⟨#[c]⟩) H
theorem sq7:IxR X (rIxL X.K):=by
 intro value slice pins s σ H x y v u Q I rx ry h hs
 obtain ⟨p,xs,i,z,rfl,rfl,hq,he,q⟩:=h
 cases rx
 obtain ⟨t,rfl⟩:=ry
 obtain ⟨its,r,pl,hz⟩:=I.list hq
 obtain ⟨j,h1,h2,h3,h4,h5⟩:=lqT he
 obtain ⟨w,ew,rw'⟩:=r.get h2
 have hl:=r.length
 have hn:=line63
 have fin:EP X pins σ Q w s:=⟨z,H,I,rw',q⟩
 by_cases h0:0 ≤ i
 ·have hj:i.toNat=j:=by
   rw [seqIndex_of h0 h5] at h1
   exact Option.some.inj h1
  exact item_listR pl.isList h0 (by omega) (by rw [hj]; simpa using ew) fin hs
 ·have hj:(i + (its.toArray.size:Int)).toNat=j:=by
   rw [seqIndex_neg (by omega) h4] at h1
   rw [List.size_toArray,<- hl]
   exact Option.some.inj h1
  exact subscriptTail_builtinR (x:=w) pl.isList.typeIs slot_list_getitem.lookup
   (wpAny_getItem_list_neg (Q:=fun r s' => r=w∧EP X pins σ Q r s') pl.isList (by omega) (by rw [List.size_toArray] <;> omega) (by omega) (by rw [hj]; simpa using ew) ⟨rfl,fin⟩) hs
theorem uqg:IxR X (rIxT X.K):=by
 intro value slice pins s σ H x y v u Q I rx ry h hs
 obtain ⟨p,xs,i,z,rfl,rfl,hq,he,q⟩:=h
 cases rx
 obtain ⟨t,rfl⟩:=ry
 obtain ⟨its,r,pl,hz⟩:=I.tuple hq
 obtain ⟨j,h1,h2,h3,h4,h5⟩:=lqT he
 obtain ⟨w,ew,rw'⟩:=r.get h2
 have hl:=r.length
 have hn:=line63
 have fin:EP X pins σ Q w s:=⟨z,H,I,rw',q⟩
 exact subscriptTail_builtinR (x:=w) pl.typeIs slot_tuple_getitem.lookup
  (getItem_tuple (j:=j) (Q:=fun r s' => r=w∧EP X pins σ Q r s') pl (by omega) (by omega) (by rw [List.size_toArray,<- hl]; exact h1) (by simpa using ew) ⟨rfl,fin⟩) hs
theorem uqI:IxR X rIxS:=by
 intro value slice pins s σ H x y v u Q I rx ry h hs
 obtain ⟨z,i,c,rfl,rfl,hz,he,q⟩:=h
 obtain ⟨t,rfl⟩:=rx
 obtain ⟨t',rfl⟩:=ry
 obtain ⟨j,h1,h2,h3,h4,h5⟩:=lqT he
 have hl:z.cps.toList.length=z.length:=by simp [Str.length]
 rw [hl] at h1 h4 h5
 have hn:=line63
 exact tail_any (typeIs_str s z t) slot_str_getitem.lookup (getItem_str (c:=c) (by
  have e1:decide (i < -(2 ^ 63:Int))=false:=decide_eq_false (by omega)
  have e2:decide (i ≥ 2 ^ 63)=false:=decide_eq_false (by omega)
  rw [e1,e2,Bool.or_false]) (by rw [h1]; simpa using h2) ⟨.str ⟨#[c]⟩,H,I.tok _,⟨_,rfl⟩,q⟩) hs
def rIx (K:PySem.W.Frag):R2:=fun x y H Q => rIxL K x y H Q ∨ rIxT K x y H Q ∨ rIxS x y H Q
theorem uqD:IxR X (rIx X.K):=sq7.or (uqg.or uqI)
theorem nqx (its:List Value) (n j:Nat) (u:Value):Obj.mapSeq (·.setIfInBounds j u) { cls:=.type "list",data:=.seq its.toArray n }={ cls:=.type "list",data:=.seq (its.set j u).toArray n }:=by
 simp [Obj.mapSeq]
theorem Inv.lst {pins:List (Addr × Obj)}{σ:St}{H:Hp}{s:Shared}{p:Addr}{xs:List V} (I:Inv X pins σ H s) (h:H p=some (.lst xs)) :
  ∃ (its:List Value) (n:Nat),Vals xs its∧s.heap.get? p=some { cls:=.type "list",data:=.seq its.toArray n }∧xs.length ≤ sizeLine:=by
 obtain ⟨z,its,n,r,e⟩:=I.hok p _ h
 exact ⟨its,n,r,e,z⟩
theorem Inv.lstUpd {pins:List (Addr × Obj)}{σ:St}{H:Hp}{s:Shared}{p:Addr}{xs ys:List V}{its its':List Value}{n n':Nat}{f:Obj->Obj} (I:Inv X pins σ H s) (h:H p=some (.lst xs))
  (ho:s.heap.get? p=some { cls:=.type "list",data:=.seq its.toArray n }) (hf:f { cls:=.type "list",data:=.seq its.toArray n }={ cls:=.type "list",data:=.seq its'.toArray n' }) (r:Vals ys its') (hz:ys.length ≤ sizeLine) (t:Nat) :
  Inv X pins σ (upd H p (.lst ys)) { s with heap:=s.heap.update p f,toks:=t }:=by
 have e:(s.heap.update p f).get? p=some { cls:=.type "list",data:=.seq its'.toArray n' }:=by
  rw [Heap.get?_update_self f ho (by rw [hf] <;> rfl),hf]
 refine I.write (x:=p) (e:=p) (by rw [h]; trivial) (.inl rfl) (fun b u hb q => (Heap.get?_update_other _ _ (Ne.symm hb)).trans q) ⟨_,e⟩ ?_
 exact ⟨hz,its',n',r,e⟩
def rSetL:V->V->V->Hp->(Hp->Prop)->Prop:=fun o i v H Q => ∃ p xs k j,o=.ref p∧i=.int k∧H p=some (.lst xs)∧ixN xs.length k=some j∧Q (upd H p (.lst (xs.set j v)))
theorem mqJ:PSet X rSetL:=by
 intro pins s σ H o i v ov iv u Q I ro ri rv h
 obtain ⟨p,xs,k,j,rfl,rfl,hp,hj,q⟩:=h
 cases ro
 obtain ⟨t,rfl⟩:=ri
 obtain ⟨its,n,r,ho,hz⟩:=I.lst hp
 obtain ⟨h1,h2,h3,h4⟩:=oqN hj
 have hl:=r.length
 have hn:=line63
 have I':Inv X pins σ (upd H p (.lst (xs.set j v))) { s with heap:=s.heap.update p (Obj.mapSeq (·.setIfInBounds j u)) } :=
  I.lstUpd hp ho (nqx its n j u) (r.set rv j) (by rw [List.length_set]; exact hz) s.toks
 by_cases h0:0 ≤ k
 ·have hk:k.toNat=j:=by
   rw [seqIndex_of h0 h4] at h1
   exact Option.some.inj h1
  exact PySem.W.ki_setAt ho h0 (by omega) (by rw [List.size_toArray,<- hl]; exact h4) (by rw [hk]; exact ⟨_,I',q⟩)
 ·have hk:(k + (its.toArray.size:Int)).toNat=j:=by
   rw [seqIndex_neg (by omega) h3] at h1
   rw [List.size_toArray,<- hl]
   exact Option.some.inj h1
  exact PySem.W.ki_setBack ho (by omega) (by rw [List.size_toArray,<- hl]; exact h3) (by omega) (by rw [hk]; exact ⟨_,I',q⟩)
theorem kqM (lo hi:Option Int) (n:Nat):(sliceBounds lo hi none n).1=((HT.sIx n 0 lo:Nat):Int)∧(sliceBounds lo hi none n).2.1=((HT.sIx n n hi:Nat):Int)∧(sliceBounds lo hi none n).2.2=1:=by
 refine ⟨?_,?_,rfl⟩
 ·cases lo with
  | none => simp [sliceBounds,HT.sIx]
  | some i =>
   simp only [sliceBounds,HT.sIx,Option.getD_none,show (1:Int) > 0 by decide,if_true]
   by_cases h:i < 0
   ·simp only [h,if_true] <;> omega
   ·simp only [h,if_false] <;> omega
 ·cases hi with
  | none => simp [sliceBounds,HT.sIx]
  | some i =>
   simp only [sliceBounds,HT.sIx,Option.getD_none,show (1:Int) > 0 by decide,if_true]
   by_cases h:i < 0
   ·simp only [h,if_true] <;> omega
   ·simp only [h,if_false] <;> omega
theorem jqS (its:List Value) (lo hi:Option Int):slicePick its.toArray lo hi none=((its.drop (HT.sIx its.length 0 lo)).take (HT.sIx its.length its.length hi - HT.sIx its.length 0 lo)).toArray:=by
 obtain ⟨h1,h2,h3⟩:=kqM lo hi its.toArray.size
 unfold slicePick
 rw [h1,h2,h3]
 simp only [sliceRange_one,pick_run,List.size_toArray] <;> rfl
def rSlL (K:PySem.W.Frag):V->Option Int->Option Int->Hp->VK->Prop:=fun x lo hi H Q => ∃ a xs,x=.ref a∧SqL K H a xs∧∀ p,H p=none->Q (.ref p) (upd H p (.lst (cutV xs lo hi)))
theorem oqU:SlR X (rSlL X.K):=by
 intro pins s σ H x v vl vu lo hi sl Q I rx hs pl pu h
 obtain ⟨a,xs,rfl,hx,q⟩:=h
 cases rx
 obtain ⟨its,r,ht,hz⟩:=I.list hx
 have hlen:=r.length
 refine ⟨"list",_,slot_list_getitem.lookup,ht.isList.typeIs,?_⟩
 refine wpAny_getItem_list_slice ht.isList hs pl pu .none (by simp) ?_ (by rw [List.size_toArray] <;> omega)
 rw [jqS,<- hlen]
 refine ⟨.ref s.heap.objs.size,_,I.laid (t':=s.toks) (o:=.lst (cutV xs lo hi)) (fun b ob q => Heap.get?_push_of_some _ q) (Nat.le_refl _) ?_,rfl,q _ (I.hok.fresh (Nat.le_refl _))⟩
 exact ⟨Nat.le_trans (hq5 xs lo hi) hz,_,0,(r.drop (HT.sIx xs.length 0 lo)).take (HT.sIx xs.length xs.length hi - HT.sIx xs.length 0 lo),Heap.get?_push_size _ rfl⟩
def flatV:V->Bool
 | .non => true
 | .bl _ => true
 | .int _ => true
 | .str _ => true
 | _ => false
def eqV:V->V->Bool
 | .non,.non => true
 | .bl a,.bl b => a == b
 | .bl a,.int b => (if a then 1 else 0) == b
 | .int a,.bl b => a == (if b then 1 else 0)
 | .int a,.int b => a == b
 | .str a,.str b => a == b
 | _,_ => false
theorem uqk {A:Around}{s:Shared}{y x:V}{u v:Value} (ry:RelV y u) (rx:RelV x v) (fy:flatV y=true) (fx:flatV x=true):SeqAt.EqAt A s u v (eqV y x):=by
 cases y with
 | non =>
  cases ry
  cases x with
  | non => cases rx; exact SeqAt.EqAt.same _
  | bl b => cases rx; exact SeqAt.EqAt.none_bool b
  | int b => obtain ⟨t,rfl⟩:=rx; exact SeqAt.EqAt.none_int b t
  | str b => obtain ⟨t,rfl⟩:=rx; exact SeqAt.EqAt.none_str b t
  | _ => exact absurd (show false=true from fx) Bool.false_ne_true
 | bl a =>
  cases ry
  cases x with
  | non => cases rx; exact SeqAt.EqAt.bool_none a
  | bl b => cases rx; exact SeqAt.EqAt.bool_bool a b
  | int b => obtain ⟨t,rfl⟩:=rx; exact SeqAt.EqAt.bool_int a b t
  | str b => obtain ⟨t,rfl⟩:=rx; exact SeqAt.EqAt.bool_str a b t
  | _ => exact absurd (show false=true from fx) Bool.false_ne_true
 | int a =>
  obtain ⟨t',rfl⟩:=ry
  cases x with
  | non => cases rx; exact SeqAt.EqAt.int_none a t'
  | bl b => cases rx; exact SeqAt.EqAt.int_bool a t' b
  | int b => obtain ⟨t,rfl⟩:=rx; exact SeqAt.EqAt.int_int a t' b t
  | str b => obtain ⟨t,rfl⟩:=rx; exact SeqAt.EqAt.int_str a t' b t
  | _ => exact absurd (show false=true from fx) Bool.false_ne_true
 | str a =>
  obtain ⟨t',rfl⟩:=ry
  cases x with
  | non => cases rx; exact SeqAt.EqAt.str_none a t'
  | bl b => cases rx; exact SeqAt.EqAt.str_bool a t' b
  | int b => obtain ⟨t,rfl⟩:=rx; exact SeqAt.EqAt.str_int a t' b t
  | str b => obtain ⟨t,rfl⟩:=rx; exact SeqAt.EqAt.str_str a t' b t
  | _ => exact absurd (show false=true from fx) Bool.false_ne_true
 | _ => exact absurd (show false=true from fy) Bool.false_ne_true
def eqU (x:V) (u:Value):Bool:=match u with
 | .none => eqV .non x
 | .bool b => eqV (.bl b) x
 | .int i _ => eqV (.int i) x
 | .str z _ => eqV (.str z) x
 | _ => false
theorem rqf {x y:V}{u:Value} (r:RelV y u) (f:flatV y=true):eqU x u=eqV y x:=by
 cases y with
 | non => cases r; rfl
 | bl b => cases r; rfl
 | int i => obtain ⟨t,rfl⟩:=r; rfl
 | str z => obtain ⟨t,rfl⟩:=r; rfl
 | _ => exact absurd (show false=true from f) Bool.false_ne_true
theorem iqr {x:V}:∀ {xs:List V}{us:List Value},Vals xs us->xs.all flatV=true->us.any (eqU x)=xs.any fun y => eqV y x
 | _,_,.nil,_ => rfl
 | y :: xs,u :: us,.cons r t,f => by
  rw [List.all_cons,Bool.and_eq_true] at f
  rw [List.any_cons,List.any_cons,rqf r f.1,iqr t f.2]
theorem gqs {A:Around}{s:Shared}{x:V}{v:Value} (rx:RelV x v) (fx:flatV x=true):∀ {xs:List V}{us:List Value},Vals xs us->xs.all flatV=true->∀ u ∈ us,SeqAt.EqAt A s u v (eqU x u)
 | _,_,.nil,_ => fun u hu => by cases hu
 | y :: xs,u :: us,.cons r t,f => fun u' hu => by
  rw [List.all_cons,Bool.and_eq_true] at f
  rcases List.mem_cons.mp hu with rfl | hu
  ·rw [rqf r f.1]; exact uqk r rx f.1 fx
  ·exact gqs rx fx t f.2 u' hu
def inV (x:V) (xs:List V):Bool:=xs.any fun y => eqV y x
def rIn (K:PySem.W.Frag) (neg:Bool):R2:=fun x y H Q => ∃ p xs,y=.ref p∧(SqL K H p xs ∨ SqT K H p xs)∧flatV x=true∧xs.all flatV=true∧Q (.bl (if neg then !inV x xs else inV x xs)) H
theorem nqG:OpR X (compareOp .In) (rIn X.K false):=by
 intro pins s σ H x y v u Q I rx ry h
 obtain ⟨p,xs,rfl,hq,fx,fs,q⟩:=h
 cases ry
 rcases hq with hq | hq
 ·obtain ⟨its,r,pl,hz⟩:=I.list hq
  refine SeqAt.in_listAt (eqU x) pl.isList (fun w hw => gqs rx fx r fs w (by simpa using hw)) ⟨.bl _,H,I,rfl,?_⟩
  rw [show its.toArray.any (eqU x)=its.any (eqU x) by simp,iqr r fs]
  exact q
 ·obtain ⟨its,r,pl,hz⟩:=I.tuple hq
  refine SeqAt.in_tupleAt (eqU x) pl (fun w hw => gqs rx fx r fs w (by simpa using hw)) ⟨.bl _,H,I,rfl,?_⟩
  rw [show its.toArray.any (eqU x)=its.any (eqU x) by simp,iqr r fs]
  exact q
theorem lqb:OpR X (compareOp .NotIn) (rIn X.K true):=by
 intro pins s σ H x y v u Q I rx ry h
 obtain ⟨p,xs,rfl,hq,fx,fs,q⟩:=h
 cases ry
 rcases hq with hq | hq
 ·obtain ⟨its,r,pl,hz⟩:=I.list hq
  refine SeqAt.notIn_listAt (eqU x) pl.isList (fun w hw => gqs rx fx r fs w (by simpa using hw)) ⟨.bl _,H,I,rfl,?_⟩
  rw [show its.toArray.any (eqU x)=its.any (eqU x) by simp,iqr r fs]
  exact q
 ·obtain ⟨its,r,pl,hz⟩:=I.tuple hq
  refine SeqAt.notIn_tupleAt (eqU x) pl (fun w hw => gqs rx fx r fs w (by simpa using hw)) ⟨.bl _,H,I,rfl,?_⟩
  rw [show its.toArray.any (eqU x)=its.any (eqU x) by simp,iqr r fs]
  exact q
theorem lqf:CallR X (.builtin "len") (fun xs H Q => ∃ p ys,xs=[.ref p]∧(SqL X.K H p ys ∨ SqT X.K H p ys)∧Q (.int ys.length) H):=by
 intro pins s σ H xs us Q I r h
 obtain ⟨p,ys,rfl,hq,q⟩:=h
 obtain ⟨u,rfl,rx⟩:=vals1 r
 cases rx
 have hn:=line63
 rcases hq with hq | hq
 ·obtain ⟨its,r',pl,hz⟩:=I.list hq
  have hlen:=r'.length
  exact Calls.call_len_list pl.isList (by simp only [List.size_toArray] <;> omega) ⟨.int ys.length,H,I.tok _,⟨s.toks + 1,by rw [List.size_toArray,hlen]⟩,q⟩
 ·obtain ⟨its,r',pl,hz⟩:=I.tuple hq
  have hlen:=r'.length
  exact len_tuple pl (by simp only [List.size_toArray] <;> omega) ⟨.int ys.length,H,I.tok _,⟨s.toks + 1,by rw [List.size_toArray,hlen]⟩,q⟩
theorem kq9:CallR X (.builtin "len") (fun xs H Q => ∃ z,xs=[.str z]∧z.length ≤ sizeLine∧Q (.int z.length) H):=by
 intro pins s σ H xs us Q I r h
 obtain ⟨z,rfl,hz,q⟩:=h
 obtain ⟨u,rfl,t,rfl⟩:=vals1 r
 have hn:=line63
 exact len_str (by omega) ⟨.int z.length,H,I.tok _,⟨_,rfl⟩,q⟩
theorem kqB:CallR X (.type "list") (fun xs H Q => ∃ p ys,xs=[.ref p]∧(SqL X.K H p ys ∨ SqT X.K H p ys)∧∀ l,H l=none->Q (.ref l) (upd H l (.lst ys))):=by
 intro pins s σ H xs us Q I r h
 obtain ⟨p,ys,rfl,hq,q⟩:=h
 obtain ⟨u,rfl,rx⟩:=vals1 r
 cases rx
 have fin:∀ (its:List Value),Vals ys its->ys.length ≤ sizeLine->∀ (h':Heap) (c':Nat),(∀ b o',s.heap.get? b=some o'->h'.get? b=some o') ->
   h'.get? s.heap.objs.size=some { cls:=.type "list",dict:=none,data:=.seq its.toArray c',slots:=#[] }->EP X pins σ Q (.ref s.heap.objs.size) { s with heap:=h' }:=fun its r' hz h' c' kp e =>
  ⟨.ref s.heap.objs.size,_,I.laid (t':=s.toks) kp (Nat.le_refl _) (show ObjOk X.prog X.w _ h' _ (.lst ys) from ⟨hz,its,c',r',e⟩),rfl,q _ (I.hok.fresh (Nat.le_refl _))⟩
 rcases hq with hq | hq
 ·obtain ⟨its,r',pl,hz⟩:=I.list hq
  have hlen:=r'.length
  obtain ⟨o,ho,hc,n,hd⟩:=pl.isList
  exact call_list_seq p (.inl rfl) ho hc hd (fun h' c' kp e => fin its r' hz h' c' kp e) (by simp only [List.size_toArray] <;> omega)
 ·obtain ⟨its,r',pl,hz⟩:=I.tuple hq
  have hlen:=r'.length
  obtain ⟨o,ho,hc,n,hd⟩:=pl
  exact call_list_seq p (.inr rfl) ho hc hd (fun h' c' kp e => fin its r' hz h' c' kp e) (by simp only [List.size_toArray] <;> omega)
theorem fqT:CallR X (.type "tuple") (fun xs H Q => ∃ p ys,xs=[.ref p]∧((SqL X.K H p ys∧∀ l,H l=none->Q (.ref l) (upd H l (.tup ys))) ∨ (SqT X.K H p ys∧Q (.ref p) H))):=by
 intro pins s σ H xs us Q I r h
 obtain ⟨p,ys,rfl,h⟩:=h
 obtain ⟨u,rfl,rx⟩:=vals1 r
 cases rx
 rcases h with ⟨hq,q⟩ | ⟨hq,q⟩
 ·obtain ⟨its,r',pl,hz⟩:=I.list hq
  have hlen:=r'.length
  refine call_tuple_list pl.isList (fun h' kp => ?_) (by simp only [List.size_toArray] <;> omega)
  have I1:Inv X pins σ H { s with heap:=h' }:=I.kept (t':=s.toks) kp
  have I2:Inv X pins σ (upd H h'.objs.size (.tup ys)) { s with heap:=h'.push { cls:=.type "tuple",data:=.seq its.toArray } } :=
   I1.laid (t':=s.toks) (fun b o e => Heap.get?_push_of_some _ e) (Nat.le_refl _) (show ObjOk X.prog X.w _ _ _ (.tup ys) from ⟨hz,its,r',IsTup.new _ _⟩)
  exact ⟨.ref h'.objs.size,_,I2,rfl,q _ (I1.hok.fresh (Nat.le_refl _))⟩
 ·obtain ⟨its,r',pl,hz⟩:=I.tuple hq
  exact call_tuple_same pl ⟨.ref p,H,I,rfl,q⟩
def tyV (K:PySem.W.Frag) (T:String) (x:V) (H:Hp):Prop:=match x with
 | .str _ => T = "str"
 | .int _ => T = "int"
 | .ref p => (T = "list" ∧ ∃ xs,SqL K H p xs) ∨ (T = "tuple" ∧ ∃ o,K.lookup p=some o∧o.cls=.type "tuple" ∧ o.dict=none) ∨
   (T = "dict" ∧ ((∃ kvs,H p=some (.dK kvs)) ∨ ∃ kvs,H p=some (.dT kvs))) ∨ (T = "set" ∧ ∃ S n,H p=some (.set S n))
 | _ => False
theorem uqt {pins:List (Addr × Obj)}{σ:St}{H:Hp}{s:Shared}{T:String}{x:V}{v:Value} (I:Inv X pins σ H s) (r:RelV x v) (ty:tyV X.K T x H) :
  s.TypeIs v T∧∀ a,v=.ref a->∃ ob,s.heap.get? a=some ob∧ob.dict=none:=by
 cases x with
 | str z =>
  obtain ⟨t,rfl⟩:=r
  cases (show T = "str" from ty)
  exact ⟨typeIs_str s z t,fun _ e => nomatch e⟩
 | int i =>
  obtain ⟨t,rfl⟩:=r
  cases (show T = "int" from ty)
  exact ⟨typeIs_int s i t,fun _ e => nomatch e⟩
 | ref p =>
  cases r
  rcases ty with ⟨rfl,xs,hq⟩ | ⟨rfl,o,hk,hc,hd⟩ | ⟨rfl,hk⟩ | ⟨rfl,S,n,hk⟩
  ·obtain ⟨its,_,pl,_⟩:=I.list hq
   refine ⟨pl.isList.typeIs,fun a e => ?_⟩
   cases e
   obtain ⟨o,n,e,c,hd,_⟩:=pl
   exact ⟨o,e,hd⟩
  ·refine ⟨⟨o,I.kIn p o hk,hc⟩,fun a e => ?_⟩
   cases e
   exact ⟨o,I.kIn _ o hk,hd⟩
  ·have z:∃ o,s.heap.get? p=some o∧o.ExactDict:=by
    rcases hk with ⟨kvs,hk⟩ | ⟨kvs,hk⟩
    ·obtain ⟨_,_,_,_,o,_,_,e,ex,_⟩:=I.hok p _ hk
     exact ⟨o,e,ex⟩
    ·obtain ⟨_,_,_,_,o,_,_,e,ex,_⟩:=I.hok p _ hk
     exact ⟨o,e,ex⟩
   obtain ⟨o,e,ex⟩:=z
   refine ⟨⟨o,e,ex.1⟩,fun a e2 => ?_⟩
   cases e2
   exact ⟨o,e,ex.2.1⟩
  ·obtain ⟨o,_,_,_,e,ex,_⟩:=I.hok p _ hk
   refine ⟨⟨o,e,ex.1⟩,fun a e2 => ?_⟩
   cases e2
   exact ⟨o,e,ex.2.1⟩
 | _ => exact False.elim ty
def tBM0 (K:PySem.W.Frag) (T:String) (r:V->List V->Hp->VK->Prop) (to:TE):TE:=fun σ H Q => to σ H fun x H1 => tyV K T x H1∧r x [] H1 Q
def tBM (K:PySem.W.Frag) (T:String) (r:V->List V->Hp->VK->Prop) (to:TE) (t:TA):TE:=fun σ H Q => to σ H fun x H1 => tyV K T x H1∧t σ H1 fun xs H2 => r x xs H2 Q
variable {o e:Expr}{es:List Expr}{to:TE}{t:TA}{name:Str}{apos cpos:Pos}{T id:String}{r:V->List V->Hp->VK->Prop}
theorem uq0 (pa:PlainAttrs T) (slot:Slot T name id) (hty:typeOf (.builtin id)=pure (.type "method_descriptor")) (hm:MtR X id r) (ho:PE X o to) (ha:PA X (e :: es) t)
  (hbase:attributeBase o name X.env (eval o X.env)=eval o X.env:=by rfl)
  (hfew:((backTo cpos (starEach (e :: es) X.env)).all (fun x => !x.1) && (backToKw cpos (keywordEach [] X.env)).all (fun x => x.1.isSome)
   && decide ((e :: es).length + ([]:List Keyword).length + (if ([]:List Keyword).isEmpty then 0 else 1) < 30))=true:=by rfl)
  (hline:(apos.endLine == cpos.line)=true:=by rfl) (hs:starEach (e :: es) X.env=(false,eval e X.env) :: starEach es X.env:=by rfl) (hplain:(backTo cpos (starEach es X.env)).any (·.1)=false:=by rfl) :
  PE X (.Call (.Attribute o name apos) (e :: es) [] cpos) (tBM X.K T r to t):=by
 intro pins s σ H Q I h
 refine wpAny_Call_method_late hbase hfew hline rfl (thn (ho pins s σ H _ I h) fun v s1 W' => ?_)
 obtain ⟨x,H1,I1,r1,ty,q1⟩:=W'
 obtain ⟨h1,h2⟩:=uqt I1 r1 ty
 refine ⟨T,id,pa,slot,hty,h1,h2,?_⟩
 have hA:=ha cpos pins s1 σ H1 _ I1 q1
 rw [hs] at hA ⊢
 refine Calls.callWith_builtin (by show (false || (backTo cpos (starEach es X.env)).any (·.1))=false; rw [hplain] <;> rfl) (Calls.evalArgs_plain ?_)
 exact thn hA fun us s2 ⟨vs,H2,I2,r2,q2⟩ => hm pins s2 σ H2 x vs v us Q I2 r1 r2 q2
end
def MtM (X:Cx) (id:String) (r:V->List V->Hp->VK->Prop):Prop :=
 ∀ (pins:List (Addr × Obj)) (s:Shared) (σ:St) (H:Hp) (x:V) (xs:List V) (v:Value) (us:List Value) (Q:VK),Inv X pins σ H s->RelV x v->Vals xs us->r x xs H Q ->
  wpAny (model X.prog X.w) X.A (call (.builtin id) (v :: us)) (EP X pins σ Q) X.xe s
theorem Vals.one:∀ {x:V}{us:List Value},Vals [x] us->∃ u,us=[u]∧RelV x u
 | _,_,.cons r .nil => ⟨_,rfl,r⟩
theorem Vals.rep {xs:List V}{us:List Value} (h:Vals xs us):∀ k:Nat,Vals (List.replicate k xs).flatten (List.replicate k us).flatten
 | 0 => .nil
 | k + 1 => by
  rw [List.replicate_succ,List.replicate_succ,List.flatten_cons,List.flatten_cons]
  exact Vals.append h (Vals.rep h k)
theorem iqq (its:List Value):∀ (k:Nat) (acc:List Value),
  List.foldl (fun x1 x2 => x1 ++ x2) acc.toArray (List.replicate k its.toArray)=(acc ++ (List.replicate k its).flatten).toArray
 | 0,acc => by simp
 | k + 1,acc => by
  have e:acc.toArray ++ its.toArray=(acc ++ its).toArray:=by simp
  have e2:(acc ++ its) ++ (List.replicate k its).flatten=acc ++ (List.replicate (k + 1) its).flatten:=by
   rw [List.replicate_succ,List.flatten_cons,List.append_assoc]
  rw [<- e2,<- iqq its k (acc ++ its),<- e,List.replicate_succ,List.foldl_cons]
section
variable {X:Cx}{pins:List (Addr × Obj)}{σ:St}{H:Hp}{s:Shared}{l b:Addr}{xs ys zs:List V}
theorem Inv.lset {its its':List Value}{n:Nat}{f:Array Value->Array Value}{t':Nat} (I:Inv X pins σ H s) (hH:H l=some (.lst xs))
  (e:s.heap.get? l=some { cls:=.type "list",data:=.seq its.toArray n }) (hf:f its.toArray=its'.toArray) (hv:Vals ys its') (hz:ys.length ≤ sizeLine) :
  Inv X pins σ (upd H l (.lst ys)) { s with heap:=s.heap.update l (Obj.mapSeq f),toks:=t' }:=by
 have q:=PySem.IsL.update e f
 rw [hf] at q
 refine I.write (x:=l) (e:=l) (by rw [hH]; exact trivial) (.inl rfl) (fun b' u hb hu => (Heap.get?_update_other s.heap (Obj.mapSeq f) (Ne.symm hb)).trans hu) ⟨_,q⟩ ?_
 exact ⟨hz,its',_,hv,q⟩
theorem Inv.lnew {its:List Value}{t':Nat} (I:Inv X pins σ H s) (hv:Vals ys its) (hz:ys.length ≤ sizeLine) :
  Inv X pins σ (upd H s.heap.objs.size (.lst ys)) { s with heap:=s.heap.push { cls:=.type "list",data:=.seq its.toArray },toks:=t' } :=
 I.laid (fun _ _ q => Heap.get?_push_of_some _ q) (Nat.le_refl _) ⟨hz,its,0,hv,Heap.get?_push_size _ rfl⟩
theorem Inv.fresh (I:Inv X pins σ H s):H s.heap.objs.size=none:=I.hok.fresh (Nat.le_refl _)
theorem Inv.lstM (I:Inv X pins σ H s) (hH:H l=some (.lst xs)):xs.length ≤ sizeLine∧∃ (its:List Value) (n:Nat),Vals xs its∧xs.length=its.length∧s.heap.get? l=some { cls:=.type "list",data:=.seq its.toArray n }:=by
 obtain ⟨z,its,n,r,e⟩:=I.hok l _ hH
 exact ⟨z,its,n,r,r.length,e⟩
theorem notLongL {n:Nat} (h:n ≤ sizeLine):Builtin.List.listTooLong n=false:=by
 unfold Builtin.List.listTooLong
 exact decide_eq_false (by omega)
end
section
variable {X:Cx}
def rAppend:V->List V->Hp->VK->Prop:=fun x vs H Q => ∃ l xs y,x=.ref l∧vs=[y]∧H l=some (.lst xs)∧xs.length < sizeLine∧Q .non (upd H l (.lst (xs ++ [y])))
theorem bqe:MtM X "list.append" rAppend:=by
 intro pins s σ H x vs v us Q I rx rv h
 obtain ⟨l,xs,y,rfl,rfl,hH,hz,q⟩:=h
 cases rx
 obtain ⟨u,rfl,ru⟩:=rv.one
 obtain ⟨z,its,n,r,hl,e⟩:=I.lstM hH
 refine call_meets F.slot_list_append ⟨_,e,rfl⟩ F.entry_list_append (F.args_list_append_2 _ _) (PySem.list_append l its.toArray n u (by rw [List.size_toArray]; omega)) ⟨e,?_⟩
 refine ⟨.non,_,I.lset (its':=its ++ [u]) hH e (by simp) (r.append (.cons ru .nil)) ?_,rfl,q⟩
 rw [List.length_append,List.length_singleton]
 omega
def rExtend:V->List V->Hp->VK->Prop:=fun x vs H Q => ∃ l b xs zs,x=.ref l∧vs=[.ref b]∧H l=some (.lst xs)∧H b=some (.lst zs)∧xs.length + zs.length ≤ sizeLine∧Q .non (upd H l (.lst (xs ++ zs)))
theorem nq0:MtM X "list.extend" rExtend:=by
 intro pins s σ H x vs v us Q I rx rv h
 obtain ⟨l,b,xs,zs,rfl,rfl,hH,hB,hz,q⟩:=h
 cases rx
 obtain ⟨u,rfl,ru⟩:=rv.one
 cases ru
 obtain ⟨z,its,n,r,hl,e⟩:=I.lstM hH
 obtain ⟨z2,its2,n2,r2,hl2,e2⟩:=I.lstM hB
 have hsz:its.toArray.size + its2.toArray.size ≤ sizeLine:=by rw [List.size_toArray,List.size_toArray]; omega
 have hlong:¬ (!its.toArray.isEmpty && Builtin.List.listTooLong (its.toArray.size + its2.toArray.size))=true:=by
  rw [notLongL hsz,Bool.and_false]
  exact Bool.false_ne_true
 refine call_meets F.slot_list_extend ⟨_,e,rfl⟩ F.entry_list_extend (F.args_list_extend_2 _ _)
  (AutoSeq1.list_extend_list_list_0 l its.toArray n b its2.toArray n2 hlong (by rw [List.size_toArray]; omega) (by omega)) ⟨e,e2,?_⟩
 refine ⟨.non,_,I.lset (its':=its ++ its2) hH e (by simp) (r.append r2) ?_,rfl,q⟩
 rw [List.length_append]
 omega
def rPop:V->List V->Hp->VK->Prop:=fun x vs H Q => ∃ l xs y,x=.ref l∧vs=[]∧H l=some (.lst xs)∧xs[xs.length - 1]?=some y∧Q y (upd H l (.lst xs.dropLast))
def rPopAt:V->List V->Hp->VK->Prop:=fun x vs H Q => ∃ l xs i k y,x=.ref l∧vs=[.int i]∧H l=some (.lst xs)∧-(2 ^ 63) ≤ i∧i < 2 ^ 63∧seqIndex? i xs.length=some k∧xs[k]?=some y∧Q y (upd H l (.lst (xs.eraseIdx k)))
def rReverse:V->List V->Hp->VK->Prop:=fun x vs H Q => ∃ l xs,x=.ref l∧vs=[]∧H l=some (.lst xs)∧Q .non (upd H l (.lst xs.reverse))
def rCat:R2:=fun x y H Q => ∃ l b xs zs,x=.ref l∧y=.ref b∧H l=some (.lst xs)∧H b=some (.lst zs)∧xs.length + zs.length ≤ sizeLine∧∀ p,H p=none->Q (.ref p) (upd H p (.lst (xs ++ zs)))
theorem tq2:OpR X (binaryOp .Add) rCat:=by
 intro pins s σ H x y v u Q I rx ry h
 obtain ⟨l,b,xs,zs,rfl,rfl,hH,hB,hz,q⟩:=h
 cases rx
 cases ry
 obtain ⟨z,its,n,r,hl,e⟩:=I.lstM hH
 obtain ⟨z2,its2,n2,r2,hl2,e2⟩:=I.lstM hB
 refine PySem.P.add_list e e2 ?_ (by rw [List.size_toArray,List.size_toArray]; omega)
 have ea:its.toArray ++ its2.toArray=(its ++ its2).toArray:=by simp
 rw [ea]
 exact ⟨.ref _,_,I.lnew (t':=s.toks) (r.append r2) (by rw [List.length_append]; omega),rfl,q _ I.fresh⟩
theorem oqF {α:Type} (xs:List α) (k:Nat):(List.replicate k xs).flatten.length=k * xs.length:=by
 induction k with
 | zero => simp
 | succ k ih => rw [List.replicate_succ,List.flatten_cons,List.length_append,ih,Nat.succ_mul,Nat.add_comm]
end
section
variable {prog:Program}{w:World}{A:Around}{E:Value->Shared->Prop}{s:Shared}
set_option maxRecDepth 100000 in
end
section
variable {X:Cx}
end
end L2
namespace Att
open PySem PySem.W PySem.Calls PyProof.Rows
theorem iqc {P:Params}{h:Heap}:∀ (ns:List Int) (vs:List Value),WellAll P h vs (ns.map WData.int)->IntsAre vs ns:=by
 intro ns
 induction ns with
 | nil =>
  intro vs w
  rw [List.map_nil] at w
  cases w
  exact .nil
 | cons n ns ih =>
  intro vs w
  rw [List.map_cons] at w
  cases w with
  | cons a b =>
   cases a
   exact .cons _ _ (ih _ b)
theorem nqY {l:OpenLaw}{n:Nat} (hn:l.most=some n) {P:Params}{h:Heap}{args:List WData}{vals:List Value}
  (hpre:l.row.toRowW.claim.pre args=true) (hwl:WellAll P h vals args) :
  ∃ a vs ns,vals=[Value.ref a]∧args=[WData.list (ns.map WData.int)]∧h.get? a=some { cls:=.type "list",data:=.seq vs.toArray }∧IntsAre vs ns∧ns.length ≤ n:=by
 have hsh:WShape.hasAll [] args [.list .int]=true:=(pre_splitW hpre).1
 have hc:l.pre.holds [] { args:=args }=true:=(pre_splitW hpre).2
 obtain ⟨d,r,rfl,h1,h2⟩:=hasAllW_cons hsh
 obtain rfl:=hasAllW_nil h2
 obtain ⟨xs,rfl,h3⟩:=hasW_list h1
 obtain ⟨ns,rfl⟩:=items_int h3
 have hlen:ns.length ≤ n:=by
  unfold OpenLaw.pre at hc
  have h4:(WTm.not (.lt (.lit (.int (n:Int))) (.len (.arg 0)))).holds [] { args:=[.list (ns.map .int)] }=true:=by
   have h4:=(holds_andW hc).1
   rw [hn] at h4
   exact h4
  have h5:=condW_of h4 (w_not (w_lt w_lit (w_len_list (w_arg rfl))))
  rw [List.length_map] at h5
  refine Nat.le_of_not_lt fun q => ?_
  have q':(n:Int) < ((ns.length:Nat):Int):=by omega
  first
   | (rw [decide_eq_true q'] at h5; exact absurd h5 (by decide))
   | (simp at h5; omega)
 cases hwl with
 | cons w1 w2 =>
  cases w2
  cases w1 with
  | list ho hall => exact ⟨_,_,ns,rfl,rfl,ho,iqc ns _ hall,hlen⟩
theorem pqg (l:OpenLaw) (args:List WData):l.row.toRowW.claim.post args (.bool true) args=true :=
 postW_of (r:=l.row.toRowW) (X:=(true == true))
  (show WShape.has [] (.bool true) .bool=true by first | rfl | decide | simp [WShape.has,WShape.arms,WShape.armsAll])
  (show (WTm.eq .res (.lit (.bool true))).value [] { args:=args,res:=some (.bool true),after:=args }=some (.bool (true == true)) from w_eq_bool (w_res rfl) w_lit) rfl
theorem attach_call {l:OpenLaw}{n:Nat}{q:Program}{loose:List Str}{XP:(Str->Option Value)->Heap->Prop}{YP:World->Heap->Prop}{d:DefRec}
  (hn:l.most=some n) (hdf:d.params.defaults=[])
  (call:∀ (w:World) (s₀ s₁:Shared) (mg mb:Str->Option Value) (fa:Addr) (o:Obj) (pm cd doc:Value) (a:Addr) (vs:List Value) (ns:List Int),
   Ground q loose [] XP w s₀ mg mb s₁.heap->YP w s₁.heap ->
   s₁.heap.get? fa=some o->o.data=.func (docDef d.name d.params d.body d.scope pm cd doc)->s₁.heap.CodeRec cd d.name->mg d.name=some (.ref fa) ->
   s₁.heap.get? a=some { cls:=.type "list",data:=.seq vs.toArray }->IntsAre vs ns->ns.length ≤ n->s₁.gens=#[] ->
   codeAny (model l.prog w) callerA (.call (.ref fa) ⟨[.ref a],[]⟩) (fun r s' => r=.ok (.ret (.bool true))∧OldK s₁.heap s'.heap∧s'.os=s₁.os∧AllBare s'.gens) s₁) :
  WalkO q loose XP YP l.row.toRowW d [] (fun f vs => PySem.call f vs):=by
 intro w s₀ s₁ mg mb G Y fa o pm cd doc dV kV ho hd hcd hD hmg hg args vals as hpre hlay hrd hwl hlo
 obtain rfl:dV=.none:=Dflts.none hD hdf
 obtain rfl:kV=.none:=Dflts.noKw hD
 obtain ⟨a,vs,ns,rfl,rfl,hobj,hints,hlen⟩:=nqY hn hpre hwl
 refine enter_call (codeAny_mono (call w s₀ s₁ mg mb fa o pm cd doc a vs ns G Y ho (fd_plain hd) hcd hmg hobj hints hlen hg) fun r s' hq => ?_)
 obtain ⟨rfl,h2,h3,h4⟩:=hq
 exact ⟨.inl ⟨.bool true,.bool true,[],rfl,fun _ => rfl,.bool true,pqg l _,fun _ => ⟨List.Pairwise.nil,fun _ hm => (nomatch hm)⟩⟩,h2,h3,h4⟩
section
variable {prog:Program}{w:World}{A:Around}{E:Value->Shared->Prop}{s:Shared}{K:Frag}
def ledger (h:Heap) (L d:Addr):List (Addr × Obj):=(List.range h.objs.size).filterMap fun a => if a=L ∨ a=d then none else (h.get? a).map fun o => (a,o)
end
end Att
namespace L2
open PySem PySem.Spec PyProof.Rows
theorem lqh:∀ {vs:List Value}{ns:List Int},IntsAre vs ns->Vals (ns.map V.int) vs
 | _,_,.nil => .nil
 | _,_,.cons n t h => .cons ⟨t,rfl⟩ (lqh h)
def Only (H:Hp):Prop:=∀ b,H b=none ∨ ∃ o xs,H b=some (.frz o (.lst xs))
theorem qqu {P:Program}{w:World}{K:PySem.W.Frag}{mg mb:Str->Option Value}{CX:CXT}{k:Nat}{fa a:Addr}{fd:FuncData}{x:Str}{sp:Sp}{s₁:Shared}{vs:List Value}{ns:List Int}
  (KX:K.In s₁.heap) (hns:s₁.heap.Ns mainGlobals mg) (hb:s₁.heap.Ns builtinsNs mb) (hbb:∀ x:Str,x ≠ "__name__" -> mb x=bootBuiltins x) (hlim:s₁.heap.NoLimit) (hg:s₁.gens=#[])
  (ha:s₁.heap.get? a=some { cls:=.type "list",data:=.seq vs.toArray }) (hi:IntsAre vs ns) (hl:ns.length ≤ sizeLine) (hr:Room k callerA)
  (F:∀ base:Heap,K.In base->base.Ns mainGlobals mg->FnOk P w K mg base CX k fa fd [x] sp) (hbind:∀ (s:Shared) (u:Value),BindsTo s fd ⟨[u],[]⟩ [(x,u)])
  (hsp:∀ H:Hp,Only H->SqL K H a (ns.map V.int)->sp [.ref a] H (fun v _ => v=.bl true) fun _ _ _ => False)
  (hCX:∀ H e s',CX [] H s₁ (fun _ _ _ => False) e s'->False) :
  codeAny (model P w) callerA (.call (.ref fa) ⟨[.ref a],[]⟩) (fun r s' => r=.ok (.ret (.bool true))∧OldK s₁.heap s'.heap∧s'.os=s₁.os∧AllBare s'.gens) s₁:=by
 have rv:=lqh hi
 have lenV:=hi.length
 have core:∀ H:Hp,Only H->SqL K H a (ns.map V.int)->HOk P w H s₁.heap->(∀ b,H b ≠ none->b=a)->(H a ≠ none->K.lookup a=none) ->
   codeAny (model P w) callerA (.call (.ref fa) ⟨[.ref a],[]⟩) (fun r s' => r=.ok (.ret (.bool true))∧OldK s₁.heap s'.heap∧s'.os=s₁.os∧AllBare s'.gens) s₁:=by
  intro H hO hS hok hA hK
  have base_of:∀ {b:Addr}{o:Obj},s₁.heap.get? b=some o->H b=none->(hidT s₁.heap H).get? b=some o:=fun e n => pq3 e n
  have noA:∀ {b:Addr}{o:Obj}{es:Array DictEntry}{ep:Nat},s₁.heap.get? b=some o->o.data=.dict es ep->H b=none:=fun {b o es ep} e d => by
   cases q:H b with
   | none => rfl
   | some u =>
    have e':b=a:=hA b (by rw [q]; simp)
    subst e'
    rw [ha] at e; cases e
    have d':Data.seq vs.toArray _=Data.dict es ep:=d
    cases d'
  have nsK:∀ {b:Addr}{m:Str->Option Value},s₁.heap.Ns b m->(hidT s₁.heap H).Ns b m:=fun {b m} ⟨o,es,ep,e,d,r⟩ => ⟨o,es,ep,base_of e (noA e d),d,r⟩
  have hKb:K.In (hidT s₁.heap H):=fun b o e => base_of (KX b o e) (by
   cases q:H b with
   | none => rfl
   | some u =>
    have e':b=a:=hA b (by rw [q]; simp)
    subst e'
    rw [hK (by rw [q]; simp)] at e; cases e)
  have hM:Mod K mg (hidT s₁.heap H):=⟨hKb,nsK hns,⟨mb,nsK hb,hbb⟩,let ⟨mc,h1,h2⟩:=hlim; ⟨mc,nsK h1,h2⟩⟩
  have e0:Env0 P w K mg (hidT s₁.heap H) callerA [] s₁ H:=⟨rfl,hM,fun b o e => rqB e,Nat.le_of_eq (pqx _ _),trivial,fun b hb => absurd (show b ∈ ([]:List Addr) from hb) (by simp),hok,.of_eq hg⟩
  refine codeAny_mono ((F _ hKb (nsK hns)).run callerA [] s₁ H ⟨[.ref a],[]⟩ [.ref a] [.ref a] _ _ hr e0 (hbind s₁ (.ref a)) (.cons rfl .nil) (hsp H hO hS)) fun r s' h => ?_
  cases r with
  | error e => exact (hCX H e s' h).elim
  | ok fl =>
   cases fl with
   | next => exact False.elim h
   | brk => exact False.elim h
   | cont => exact False.elim h
   | ret u =>
    obtain ⟨v,H',os,bare,un,hok',r',q⟩:=h
    have q':v=.bl true:=q
    subst q'
    obtain rfl:u=Value.bool true:=r'
    refine ⟨rfl,OldK.of_keep fun b o e => ?_,os,bare⟩
    cases q:H b with
    | none => exact un.keep b o e q (by intro z; exact absurd (show b ∈ ([]:List Addr) from z) (by simp)) (by simp)
    | some u =>
     rcases hO b with z | ⟨ob,xs,z⟩
     ·rw [q] at z; cases z
     ·have z2:=un.frzs b ob _ z
      obtain ⟨e1,_⟩:=hok b _ z
      obtain ⟨e2,_⟩:=hok' b _ z2
      rw [e] at e1; cases e1
      exact e2
 cases hk:K.lookup a with
 | some o =>
  have e:=KX a o hk
  rw [ha] at e
  cases e
  refine core (fun _ => none) (fun _ => .inl rfl) (.inr ⟨_,vs.toArray,_,hk,rfl,rfl,rfl,by rw [List.size_toArray,lenV]; exact hl,by simpa using rv⟩) (fun b u z => by have z':(none:Option HO)=some u:=z; cases z') (fun b z => absurd rfl z) fun z => absurd rfl z
 | none =>
  refine core (fun b => if b=a then some (.frz { cls:=.type "list",data:=.seq vs.toArray } (.lst (ns.map V.int))) else none) (fun b => ?_) (.inl (.inr ⟨{ cls:=.type "list",data:=.seq vs.toArray },if_pos rfl⟩)) (fun b u z => ?_) (fun b z => ?_) fun _ => hk
  ·by_cases hb:b=a
   ·exact .inr ⟨_,_,if_pos hb⟩
   ·exact .inl (if_neg hb)
  ·by_cases hb:b=a
   ·have z':=(if_pos hb).symm.trans z
    cases z'
    subst hb
    exact ⟨ha,by rw [List.length_map]; exact hl,vs,_,rv,ha⟩
   ·have z':=(if_neg hb).symm.trans z
    cases z'
  ·by_cases hb:b=a
   ·exact hb
   ·exact absurd (if_neg hb) z
abbrev KOf {K:PySem.W.Frag}{h:Heap} (_:K.In h):PySem.W.Frag:=K
theorem sqZ {l:PySem.W.OpenLaw}{n k:Nat}{q:Program}{loose:List Str}{XP:(Str->Option Value)->Heap->Prop}{YP:World->Heap->Prop}{d:DefRec}{K:Params->PySem.W.Frag}{CX:World->CXT}{sp:World->Sp}{x:Str}
  (hn:l.most=some n) (hn2:n ≤ sizeLine) (hdf:d.params.defaults=[]) (hr:Room k callerA)
  (hY:∀ (w:World) (h:Heap),YP w h->(K w.params).In h)
  (F:∀ (w:World) (mg:Str->Option Value) (fa:Addr) (h:Heap),(K w.params).In h->h.Ns mainGlobals mg->mg d.name=some (.ref fa) ->
   ∃ fd:FuncData,(∀ (s:Shared) (u:Value),BindsTo s fd ⟨[u],[]⟩ [(x,u)]) ∧
    ∀ base:Heap,(K w.params).In base->base.Ns mainGlobals mg->FnOk l.prog w (K w.params) mg base (CX w) k fa fd [x] (sp w))
  (hsp:∀ (w:World) (H:Hp) (a:Addr) (ns:List Int),ns.length ≤ n->Only H->SqL (K w.params) H a (ns.map V.int)->sp w [.ref a] H (fun v _ => v=.bl true) fun _ _ _ => False)
  (hCX:∀ (w:World) (H:Hp) (s:Shared) (e:Value) (s':Shared),CX w [] H s (fun _ _ _ => False) e s'->False) :
  PySem.W.WalkO q loose XP YP l.row.toRowW d [] (fun f vs => PySem.call f vs):=by
 refine Att.attach_call hn hdf fun w s₀ s₁ mg mb fa o pm cd doc a vs ns G Y ho hd hcd hmg hobj hints hlen hg => ?_
 have KX:=hY w _ Y
 obtain ⟨fd,hb,hF⟩:=F w mg fa _ KX G.T.g hmg
 exact qqu KX G.T.g G.T.b G.T.builtins G.T.nolimit hg hobj hints (Nat.le_trans hlen hn2) hr hF hb (fun H hO hS => hsp w H a ns hlen hO hS) fun H e s' => hCX w H s₁ e s'
def inClass (s:Stmt) (j:Nat):Stmt:=match s with
 | .ClassDef _ _ _ body _ _ _ _ _ _ _ => body.getD j (.Pass ⟨0,0,0,0⟩)
 | _ => .Pass ⟨0,0,0,0⟩
def defArgs (s:Stmt):Arguments:=match s with
 | .FunctionDef _ a _ _ _ _ _ _ _ _ => a
 | _ => { posonlyargs:=[],args:=[],vararg:=none,kwonlyargs:=[],kw_defaults:=[],kwarg:=none,defaults:=[] }
def defBody (s:Stmt):List Stmt:=match s with
 | .FunctionDef _ _ b _ _ _ _ _ _ _ => b
 | _ => []
def defScope (s:Stmt):Scope:=match s with
 | .FunctionDef _ _ _ _ _ _ sc _ _ _ => sc
 | _ => { kind:=.function,names:=[],isGenerator:=false,isCoroutine:=false }
abbrev CX0:CXT:=fun _ _ _ _ _ _ => False
abbrev E0:XK:=fun _ _ _ => False
theorem pass0 {X:Cx}:Passes CX0 X E0:=fun _ _ _ _ _ _ _ h => h.elim
structure Fun (K:PySem.W.Frag) (x qual:Str) (st:Stmt) (f:Addr) (fd:FuncData):Prop where
 ex:∃ (oc:Value) (od:Option Addr) (kV doc pm:Value) (an:Option Addr) (cdv ct:Value) (osl:Array (Option Value)),
  fd=PySem.W.fnOf x qual (defArgs st) (defBody st) (defScope st) .none kV doc pm an cdv ct∧K.lookup f=some ⟨oc,od,.func fd,osl⟩∧PySem.W.codeIn K cdv qual=true
 kp:PySem.W.keepIn K (.ref f)=true
section
variable {P:Program}{w:World}{K:PySem.W.Frag}{mg:Str->Option Value}{base:Heap}
theorem Fun.ok {x qual:Str}{st:Stmt}{f:Addr}{fd:FuncData}{N ps:List Str}{k:Nat}{sp:Sp} (F:Fun K x qual st f fd) (S:FnScope N ps (defScope st)) (len:∀ vs H Q E,sp vs H Q E->vs.length=ps.length)
  (hbody:∀ (cdv:Value) (A:Around) (outer:List Env) (s:Shared) (H:Hp) (vs:List V) (Q:VK) (E:XK),Room k (A.deeper (envOfC qual (defScope st) s.heap.objs.size f cdv))->sp vs H Q E ->
   ∃ t,PSs (cxOf CX0 P w K mg base N qual (defScope st) f cdv A outer s H E).nox (defBody st) t∧t { nx:=fun _ H' => Q .non H',rt:=Q } (start N vs) H):FnOk P w K mg base CX0 (k + 1) f fd ps sp:=by
 obtain ⟨oc,od,kV,doc,pm,an,cdv,ct,osl,rfl,lk,hcd⟩:=F.ex
 refine uqu lk hcd S len fun A outer s H vs Q E hr hsp => ?_
 obtain ⟨t,h,q⟩:=hbody cdv A outer s H vs Q E hr hsp
 exact ⟨t,h.nox,q⟩
theorem Fun.binds {x qual:Str}{st:Stmt}{f:Addr}{fd:FuncData}{ps:List Str} (F:Fun K x qual st f fd)
  (h:∀ (kV doc pm:Value) (an:Option Addr) (cdv ct:Value) (us:List Value),us.length=ps.length->bindArgs (PySem.W.fnOf x qual (defArgs st) (defBody st) (defScope st) .none kV doc pm an cdv ct) ⟨us,[]⟩=pure (ps.zip us)):Binds K fd ps []:=by
 obtain ⟨oc,od,kV,doc,pm,an,cdv,ct,osl,rfl,lk,hcd⟩:=F.ex
 exact .all (h kV doc pm an cdv ct)
theorem aqz {x qual:Str}{st:Stmt}{f:Addr}{oc:Value}{od an:Option Addr}{osl:Array (Option Value)}{kV doc pm cdv ct:Value} (l:K.lookup f=some ⟨oc,od,.func (PySem.W.fnOf x qual (defArgs st) (defBody st) (defScope st) .none kV doc pm an cdv ct),osl⟩)
  (c:PySem.W.codeIn K cdv qual=true) (k:PySem.W.keepIn K (.ref f)=true):Fun K x qual st f (PySem.W.fnOf x qual (defArgs st) (defBody st) (defScope st) .none kV doc pm an cdv ct):=⟨⟨oc,od,kV,doc,pm,an,cdv,ct,osl,rfl,l,c⟩,k⟩
end
section
variable {X:Cx}
theorem pv (i:Nat) {x:Str}{pos:Pos} (hN:X.N[i]?=some x:=by rfl) (hv:Vis X.env.scope x:=by first | exact Or.inl rfl | exact Or.inr (Or.inl rfl) | exact Or.inr (Or.inr rfl)) (hd:(x == ("__debug__" : Str))=false:=by decide)
  (hcd:(x == ("__classdict__" : Str))=false:=by decide):PE X (.Name x pos) (tVar i):=tq7 hN hv hd hcd
end
theorem ite2 {c A B:Prop} [Decidable c] (h1:c->A) (h2:¬ c->B):if c then A else B:=by
 by_cases h:c
 ·rw [if_pos h]
  exact h1 h
 ·rw [if_neg h]
  exact h2 h
def Same (H H':Hp):Prop:=∀ b o,H b=some o->H' b=some o
theorem Same.refl (H:Hp):Same H H:=fun _ _ h => h
theorem Same.trans {H H1 H2:Hp} (a:Same H H1) (b:Same H1 H2):Same H H2:=fun c o h => b c o (a c o h)
theorem Same.seq {K:PySem.W.Frag}{H H':Hp}{a:Addr}{xs:List V} (e:Same H H') (h:SqL K H a xs):SqL K H' a xs:=by
 rcases h with (h | ⟨o,h⟩) | h
 ·exact .inl (.inl (e _ _ h))
 ·exact .inl (.inr ⟨o,e _ _ h⟩)
 ·exact .inr h
end L2
set_option maxHeartbeats 4000000
namespace L2
open PySem PySem.Spec PyProof.Rows
def Its (z:Str):It:=⟨fun i _ => i < z.length,fun i H x H' => H'=H∧∃ c,z.cps.toList[i]?=some c∧x=.str ⟨#[c]⟩,fun i _ => z.length ≤ i⟩
theorem pqp {z:Str}{i:Nat} (h:i < z.length):∃ c,z.cps[i]?=some c∧z.cps.toList[i]?=some c:=by
 have h':i < z.cps.size:=h
 exact ⟨z.cps[i],by simp [h'],by simp [h']⟩
theorem mqK {z:Str}{i:Nat} (h:z.length ≤ i):z.cps[i]?=none:=by
 have h':z.cps.size ≤ i:=h
 simp [h']
theorem nq5 {P:Program}{w:World}{K:PySem.W.Frag}{tg:Expr} (it:Addr) (z:Str) (t:Tok):Turn P w K tg (Its z) [it] it (fun i h => h.IsStrIter it "str_ascii_iterator" z t i) where
 mem:=by simp
 obj:=fun i h st b hb => by
  have e:b=it:=by simpa using hb
  subst e
  obtain ⟨o,e,c,d⟩:=st
  exact ⟨o,e,fun v z => by rw [d] at z; cases z⟩
 keep:=fun i h h' st k => by
  obtain ⟨o,e,r⟩:=st
  exact ⟨o,k it (by simp) o e,r⟩
 item:=by
  intro X hP hw hK hc i pins s σ H E I hf st hg
  subst hP hw hK
  obtain ⟨c,h1,h2⟩:=pqp (z:=z) (i:=i) hg
  obtain ⟨f0,f1,f2,f3,f4,f5⟩:=hf it (by simp)
  refine wpAny_pyNext_ascii_item st h1 fun h' st' sb => ?_
  have I1:Inv X pins σ H { s with heap:=h',toks:=s.toks + 1 }:=I.turned (t':=s.toks + 1) (fun b o hb e => (sb.2 b hb).trans e) f0 f1 f3 f4 f5
  obtain ⟨o,e,cl,d⟩:=id st'
  exact ⟨_,rfl,oqR (s:={ s with heap:=h',toks:=s.toks + 1 }) e cl d (by decide) ⟨.str ⟨#[c]⟩,H,I1,⟨_,rfl⟩,⟨rfl,c,h2,rfl⟩,st',fun b hb => (hf b hb).1⟩⟩
 done:=by
  intro X hP hw hK hc i pins s σ H E I hf st hg
  subst hP hw hK
  obtain ⟨f0,f1,f2,f3,f4,f5⟩:=hf it (by simp)
  exact wpAny_pyNext_ascii_end (I.ok.hd hc) st (mqK hg) fun h' eb => ⟨rfl,I.turned (t':=s.toks) (fun b o hb e => eb b o hb e) f0 f1 f3 f4 f5⟩
 self:=fun _ _ _ _ _ st h => wpAny_pyIter_striter_ascii st h
theorem nqH {P:Program}{w:World}{K:PySem.W.Frag}{tg:Expr} (it:Addr) (z:Str) (t:Tok):Turn P w K tg (Its z) [it] it (fun i h => h.IsStrIter it "str_iterator" z t i) where
 mem:=by simp
 obj:=fun i h st b hb => by
  have e:b=it:=by simpa using hb
  subst e
  obtain ⟨o,e,c,d⟩:=st
  exact ⟨o,e,fun v z => by rw [d] at z; cases z⟩
 keep:=fun i h h' st k => by
  obtain ⟨o,e,r⟩:=st
  exact ⟨o,k it (by simp) o e,r⟩
 item:=by
  intro X hP hw hK hc i pins s σ H E I hf st hg
  subst hP hw hK
  obtain ⟨c,h1,h2⟩:=pqp (z:=z) (i:=i) hg
  obtain ⟨f0,f1,f2,f3,f4,f5⟩:=hf it (by simp)
  refine wpAny_pyNext_wide_item st h1 fun h' st' sb => ?_
  have I1:Inv X pins σ H { s with heap:=h',toks:=s.toks + 1 }:=I.turned (t':=s.toks + 1) (fun b o hb e => (sb.2 b hb).trans e) f0 f1 f3 f4 f5
  obtain ⟨o,e,cl,d⟩:=id st'
  exact ⟨_,rfl,oqR (s:={ s with heap:=h',toks:=s.toks + 1 }) e cl d (by decide) ⟨.str ⟨#[c]⟩,H,I1,⟨_,rfl⟩,⟨rfl,c,h2,rfl⟩,st',fun b hb => (hf b hb).1⟩⟩
 done:=by
  intro X hP hw hK hc i pins s σ H E I hf st hg
  subst hP hw hK
  obtain ⟨f0,f1,f2,f3,f4,f5⟩:=hf it (by simp)
  exact wpAny_pyNext_wide_end (I.ok.hd hc) st (mqK hg) fun h' eb => ⟨rfl,I.turned (t':=s.toks) (fun b o hb e => eb b o hb e) f0 f1 f3 f4 f5⟩
 self:=fun _ _ _ _ _ st h => wpAny_pyIter_striter_wide st h
section
variable {X:Cx}{tg:Expr}
def iStr (tl:TE):TI:=fun σ H R => tl σ H fun x H1 => ∃ z,x=.str z∧R (Its z) H1
theorem tqr {l:Expr}{tl:TE} (hl:PE X l tl):PI X tg l (iStr tl):=by
 intro pins s σ H R I h
 refine thn (hl pins s σ H _ I h) fun v s1 W' => ?_
 obtain ⟨x,H1,I1,r1,q1⟩:=W'
 obtain ⟨z,rfl,q⟩:=q1
 obtain ⟨t,rfl⟩:=r1
 have fp:∀ b ∈ [s1.heap.objs.size],FpOk X pins H1 b:=fun b hb => by
  have e:b=s1.heap.objs.size:=by simpa using hb
  subst e
  exact I1.fpOk (Nat.le_refl _) (I1.hok.fresh (Nat.le_refl _))
 cases ha:z.cps.all (· < 128)
 ·refine wpAny_pyIter_wide ha ?_
  exact ⟨s1.heap.objs.size,[s1.heap.objs.size],_,_,H1,rfl,I1.kept (t':=s1.toks) fun b o e => Heap.get?_push_of_some _ e,nqH _ z t,⟨_,Heap.get?_push_size _ rfl,rfl,rfl⟩,fp,q⟩
 ·refine wpAny_pyIter_ascii ha ?_
  exact ⟨s1.heap.objs.size,[s1.heap.objs.size],_,_,H1,rfl,I1.kept (t':=s1.toks) fun b o e => Heap.get?_push_of_some _ e,nq5 _ z t,⟨_,Heap.get?_push_size _ rfl,rfl,rfl⟩,fp,q⟩
end
section
variable {X:Cx}
def rSlS:V->Option Int->Option Int->Hp->VK->Prop:=fun x lo hi H Q => ∃ z,x=.str z∧z.length ≤ sizeLine∧Q (.str (Txt.slice z lo hi)) H
theorem tqu:SlR X rSlS:=by
 intro pins s σ H x v vl vu lo hi sl Q I rx hs pl pu h
 obtain ⟨z,rfl,hz,q⟩:=h
 obtain ⟨t,rfl⟩:=rx
 refine ⟨"str",_,F.slot_str_getitem.lookup,typeIs_str _ _ _,?_⟩
 obtain ⟨o,ho,hc,hd⟩:=hs
 cases pl with
 | none =>
  cases pu with
  | none => exact wpAny_getItem_str_slice (l:=none) (u:=none) (st:=none) ⟨o,ho,hc,hd⟩ rfl (post_val_or_str ⟨Nat.le_trans (Txt.slice_le z none none) hz,fun t' k => ⟨.str (Txt.slice z none none),H,I.tok k,⟨t',rfl⟩,q⟩⟩)
  | int j uj => exact wpAny_getItem_str_slice (l:=none) (u:=some (j,uj)) (st:=none) ⟨o,ho,hc,hd⟩ rfl (post_val_or_str ⟨Nat.le_trans (Txt.slice_le z none (some j)) hz,fun t' k => ⟨.str (Txt.slice z none (some j)),H,I.tok k,⟨t',rfl⟩,q⟩⟩)
 | int i ui =>
  cases pu with
  | none => exact wpAny_getItem_str_slice (l:=some (i,ui)) (u:=none) (st:=none) ⟨o,ho,hc,hd⟩ rfl (post_val_or_str ⟨Nat.le_trans (Txt.slice_le z (some i) none) hz,fun t' k => ⟨.str (Txt.slice z (some i) none),H,I.tok k,⟨t',rfl⟩,q⟩⟩)
  | int j uj => exact wpAny_getItem_str_slice (l:=some (i,ui)) (u:=some (j,uj)) (st:=none) ⟨o,ho,hc,hd⟩ rfl (post_val_or_str ⟨Nat.le_trans (Txt.slice_le z (some i) (some j)) hz,fun t' k => ⟨.str (Txt.slice z (some i) (some j)),H,I.tok k,⟨t',rfl⟩,q⟩⟩)
def rSl (K:PySem.W.Frag):V->Option Int->Option Int->Hp->VK->Prop:=fun x lo hi H Q => rSlL K x lo hi H Q ∨ rSlS x lo hi H Q
theorem tqL:SlR X (rSl X.K):=oqU.or tqu
def rIndex:V->List V->Hp->VK->Prop:=fun x vs H Q => match x,vs with
 | .str z,[.str y] => ∃ i r,Builtin.Str.occurrences z y 0 z.length 1=i :: r∧Q (.int (i:Nat)) H
 | _,_ => False
theorem pqY {z y:Str}{H:Hp}{Q:VK}:(rIndex (.str z) [.str y] H Q)=(∃ i r,Builtin.Str.occurrences z y 0 z.length 1=i :: r∧Q (.int (i:Nat)) H):=rfl
theorem notTooLong {n:Nat} (h:n ≤ 1000000):Builtin.Str.tooLong n=false:=by
 unfold Builtin.Str.tooLong
 rw [sizeLine_eq]
 exact decide_eq_false (by omega)
def rUpper:V->List V->Hp->VK->Prop:=fun x vs H Q => match x,vs with
 | .str z,[] => (∀ c ∈ z.cps.toList,c < 128)∧z.length ≤ 1000000∧Q (.str ⟨z.cps.map up1⟩) H
 | _,_ => False
theorem uqy {z:Str}{H:Hp}{Q:VK}:(rUpper (.str z) [] H Q)=((∀ c ∈ z.cps.toList,c < 128)∧z.length ≤ 1000000∧Q (.str ⟨z.cps.map up1⟩) H):=rfl
def rLower:V->List V->Hp->VK->Prop:=fun x vs H Q => match x,vs with
 | .str z,[] => (∀ c ∈ z.cps.toList,c < 128)∧z.length ≤ 1000000∧Q (.str ⟨z.cps.map lo1⟩) H
 | _,_ => False
theorem uqn {z:Str}{H:Hp}{Q:VK}:(rLower (.str z) [] H Q)=((∀ c ∈ z.cps.toList,c < 128)∧z.length ≤ 1000000∧Q (.str ⟨z.cps.map lo1⟩) H):=rfl
def rAlnum:V->List V->Hp->VK->Prop:=fun x vs H Q => match x,vs with
 | .str z,[] => Q (.bl (Txt.isalnum z)) H
 | _,_ => False
theorem tqA {z:Str}{H:Hp}{Q:VK}:(rAlnum (.str z) [] H Q)=(Q (.bl (Txt.isalnum z)) H):=rfl
def rJoin (K:PySem.W.Frag):V->List V->Hp->VK->Prop:=fun x vs H Q => ∃ z p ys,x=.str z∧vs=[.ref p]∧SqL K H p (ys.map V.str)∧(ys.map (·.length)).sum + ys.length * z.length ≤ 16777216∧Q (.str (Txt.join z ys)) H
def rIsi (K:PySem.W.Frag):List V->Hp->VK->Prop:=fun vs H Q => ∃ x T t b,vs=[x,.ty T]∧TyOf K H x t∧PySem.W.kitOne K t (.type T)=some b∧Q (.bl b) H
theorem pq5:CallR X (.builtin "isinstance") (rIsi X.K):=by
 intro pins s σ H xs us Q I r h
 obtain ⟨x,T,t,b,rfl,ty,e,q⟩:=h
 obtain ⟨u,v,rfl,ru,rv⟩:=vals2 r
 cases (show v=Value.type T from rv)
 exact nqP I ru ty e fun tk => ⟨.bl b,H,I.tok tk,rfl,q⟩
def rCatD:R2:=fun x y H Q => ∃ a b xs ys,x=.ref a∧y=.ref b∧H a=some (.tup xs)∧H b=some (.tup ys)∧xs.length + ys.length ≤ sizeLine∧∀ p H',Same H H'->H' p=some (.tup (xs ++ ys))->Q (.ref p) H'
theorem rqN:OpR X (binaryOp .Add) rCatD:=by
 intro pins s σ H x y v u Q I rx ry h
 obtain ⟨a,b,xs,ys,rfl,rfl,ha,hb,hz,q⟩:=h
 by_cases hx:xs=[]
 ·subst hx
  cases rx
  cases ry
  obtain ⟨its,r1,p1,_⟩:=I.tuple (SqT.of ha)
  obtain ⟨its2,r2,p2,_⟩:=I.tuple (SqT.of hb)
  cases r1
  obtain ⟨⟨cls,dd,data,sl⟩,ho,hc,n,hd⟩:=id p1
  obtain ⟨⟨cls2,dd2,data2,sl2⟩,ho2,hc2,n2,hd2⟩:=id p2
  simp only at hc hd hc2 hd2
  subst hc hd hc2 hd2
  exact concat_meets ⟨_,ho,rfl⟩ ⟨_,ho2,rfl⟩ noFill_tuple_add seq_tuple_add PySem.F.slot_tuple_add PySem.F.entry_tuple_add (PySem.F.args_tuple_add_2 _ _)
   (tuple_addW0 a b ([]:List Value).toArray its2.toArray n n2 dd dd2 sl sl2 rfl) ⟨ho,ho2,⟨.ref b,H,I,rfl,q b H (Same.refl _) hb⟩⟩
 ·refine sqM pins s σ H _ _ v u Q I rx ry ⟨a,b,xs,ys,rfl,rfl,SqT.of ha,SqT.of hb,hx,hz,fun e => q a H (Same.refl _) (by rw [e,List.append_nil]; exact ha),fun _ p hp => q p _ (fun b o e => by rw [aqq (aql e hp)]; exact e) aqk⟩
def rAddU (K:PySem.W.Frag):R2:=fun x y H Q => match x,y with
 | .int i,.int j => Q (.int (i + j)) H
 | .str i,.str j => i.length + j.length ≤ sizeLine∧Q (.str (i ++ j)) H
 | .ref a,.ref b => (∃ xs zs,H a=some (.lst xs)∧H b=some (.lst zs)∧xs.length + zs.length ≤ sizeLine∧∀ p,H p=none->Q (.ref p) (upd H p (.lst (xs ++ zs)))) ∨
   (∃ xs ys,H a=some (.tup xs)∧H b=some (.tup ys)∧xs.length + ys.length ≤ sizeLine∧∀ p H',Same H H'->H' p=some (.tup (xs ++ ys))->Q (.ref p) H')
 | _,_ => False
theorem oqS:OpR X (binaryOp .Add) (rAddU X.K):=by
 intro pins s σ H x y v u Q I rx ry h
 cases x with
 | int i =>
  cases y with
  | int j => exact tqt pins s σ H _ _ v u Q I rx ry ⟨i,j,rfl,rfl,h⟩
  | _ => exact h.elim
 | str i =>
  cases y with
  | str j => exact nqs pins s σ H _ _ v u Q I rx ry ⟨i,j,rfl,rfl,h.1,h.2⟩
  | _ => exact h.elim
 | ref a =>
  cases y with
  | ref b =>
   rcases h with ⟨xs,zs,h1,h2,h3,h4⟩ | ⟨xs,ys,h1,h2,h3,h4⟩
   ·exact tq2 pins s σ H _ _ v u Q I rx ry ⟨a,b,xs,zs,rfl,rfl,h1,h2,h3,h4⟩
   ·exact rqN pins s σ H _ _ v u Q I rx ry ⟨a,b,xs,ys,rfl,rfl,h1,h2,h3,h4⟩
  | _ => exact h.elim
 | _ => exact h.elim
theorem tqI {K:PySem.W.Frag}{i j:Int}{H:Hp}{Q:VK}:(rAddU K (.int i) (.int j) H Q)=(Q (.int (i + j)) H):=rfl
theorem tqK {K:PySem.W.Frag}{i j:Str}{H:Hp}{Q:VK}:(rAddU K (.str i) (.str j) H Q)=(i.length + j.length ≤ sizeLine∧Q (.str (i ++ j)) H):=rfl
end
section
variable {X:Cx}
def rMulU:R2:=fun x y H Q => match x,y with
 | .int i,.int j => CMul i j∧Q (.int (i * j)) H
 | .str z,.int k => MulOk z k∧Q (.str (Txt.mul z k)) H
 | _,_ => False
theorem eqt:OpR X (binaryOp .Mult) rMulU:=by
 intro pins s σ H x y v u Q I rx ry h
 cases x with
 | int i =>
  cases y with
  | int j => exact tqX pins s σ H _ _ v u Q I rx ry ⟨i,j,rfl,rfl,h.1,h.2⟩
  | _ => exact h.elim
 | str z =>
  cases y with
  | int k =>
   obtain ⟨t,rfl⟩:=rx
   obtain ⟨t',rfl⟩:=ry
   exact SB.mul h.1 fun t' k' => ⟨.str (Txt.mul z k),H,I.tok k',⟨t',rfl⟩,h.2⟩
  | _ => exact h.elim
 | _ => exact h.elim
theorem tqQ {i j:Int}{H:Hp}{Q:VK}:(rMulU (.int i) (.int j) H Q)=(CMul i j∧Q (.int (i * j)) H):=rfl
theorem uqe {z:Str}{k:Int}{H:Hp}{Q:VK}:(rMulU (.str z) (.int k) H Q)=(MulOk z k∧Q (.str (Txt.mul z k)) H):=rfl
def rLenU (K:PySem.W.Frag):List V->Hp->VK->Prop:=fun xs H Q => match xs with
 | [.str z] => z.length ≤ sizeLine∧Q (.int z.length) H
 | [.ref p] => ∃ ys,(SqL K H p ys ∨ SqT K H p ys)∧Q (.int ys.length) H
 | _ => False
theorem oqa:CallR X (.builtin "len") (rLenU X.K):=by
 intro pins s σ H xs us Q I r h
 unfold rLenU at h
 split at h
 ·exact kq9 pins s σ H _ us Q I r ⟨_,rfl,h.1,h.2⟩
 ·obtain ⟨ys,h1,h2⟩:=h
  exact lqf pins s σ H _ us Q I r ⟨_,ys,rfl,h1,h2⟩
 ·exact h.elim
theorem tqx {K:PySem.W.Frag}{z:Str}{H:Hp}{Q:VK}:(rLenU K [.str z] H Q)=(z.length ≤ sizeLine∧Q (.int z.length) H):=rfl
theorem oqL {K:PySem.W.Frag}{p:Addr}{H:Hp}{Q:VK}:(rLenU K [.ref p] H Q)=(∃ ys,(SqL K H p ys ∨ SqT K H p ys)∧Q (.int ys.length) H):=rfl
def rOrdU:List V->Hp->VK->Prop:=fun xs H Q => match xs with
 | [.str z] => z.length=1∧Q (.int (z.cps.getD 0 0:Nat)) H
 | _ => False
theorem uqC {c:Nat}{H:Hp}{Q:VK}:rOrdU [.str ⟨#[c]⟩] H Q ↔ Q (.int (c:Nat)) H:=⟨fun h => h.2,fun h => ⟨rfl,h⟩⟩
theorem qq3:bootBuiltins "int" = some (.type "int"):=by decide +kernel
theorem mqj:bootBuiltins "str" = some (.type "str"):=by decide +kernel
theorem tqi:bootBuiltins "bool" = some (.type "bool"):=by decide +kernel
theorem hqG:bootBuiltins "tuple" = some (.type "tuple"):=by decide +kernel
theorem lqA:bootBuiltins "list" = some (.type "list"):=by decide +kernel
theorem aq0:bootBuiltins "isinstance" = some (.builtin "isinstance"):=by decide +kernel
def rIntU:List V->Hp->VK->Prop:=fun xs H Q => match xs with
 | [.int i] => Q (.int i) H
 | [.bl k] => Q (.int (if k then 1 else 0)) H
 | _ => False
theorem uqP {k:Bool}{H:Hp}{Q:VK}:(rIntU [.bl k] H Q)=(Q (.int (if k then 1 else 0)) H):=rfl
def rInU:R2:=fun x y H Q => match x,y with
 | .str i,.str j => Q (.bl (!(Builtin.Str.occurrences j i 0 j.length 1).isEmpty)) H
 | _,_ => False
theorem uqO:OpR X (compareOp .In) rInU:=by
 intro pins s σ H x y v u Q I rx ry h
 cases x with
 | str i =>
  cases y with
  | str j => exact nqX pins s σ H _ _ v u Q I rx ry ⟨i,j,rfl,rfl,h⟩
  | _ => exact h.elim
 | _ => exact h.elim
def rNotInU:R2:=fun x y H Q => match x,y with
 | .str i,.str j => Q (.bl (!(!(Builtin.Str.occurrences j i 0 j.length 1).isEmpty))) H
 | _,_ => False
theorem uqs {c:Nat}{j:Str}{H:Hp}{Q:VK}:rInU (.str ⟨#[c]⟩) (.str j) H Q ↔ Q (.bl (decide (c ∈ j.cps.toList))) H:=by
 show Q (.bl (!(Builtin.Str.occurrences j ⟨#[c]⟩ 0 j.length 1).isEmpty)) H ↔ _
 rw [StrLaws.found_one]
theorem oq6 {c:Nat}{j:Str}{H:Hp}{Q:VK}:rNotInU (.str ⟨#[c]⟩) (.str j) H Q ↔ Q (.bl (!decide (c ∈ j.cps.toList))) H:=by
 show Q (.bl (!(!(Builtin.Str.occurrences j ⟨#[c]⟩ 0 j.length 1).isEmpty))) H ↔ _
 rw [StrLaws.found_one]
def rIsN (neg:Bool):R2:=fun x y H Q => y=.non∧Q (.bl (if neg then !decide (x=.non) else decide (x=.non))) H
theorem sqG:OpR X (compareOp .Is) (rIsN false):=fun pins s σ H x y v u Q I rx ry h => uqp pins s σ H x y v u Q I rx ry h
theorem uqQ {x:V}{H:Hp}{Q:VK}:rIsN false x .non H Q ↔ Q (.bl (decide (x=.non))) H:=⟨fun h => h.2,fun h => ⟨rfl,h⟩⟩
theorem uq7 {x:V}{H:Hp}{Q:VK}:rIsN true x .non H Q ↔ Q (.bl (!decide (x=.non))) H:=⟨fun h => h.2,fun h => ⟨rfl,h⟩⟩
def kindV (x:V) (H:Hp):Option String:=match x with
 | .non => some "NoneType"
 | .bl _ => some "bool"
 | .int _ => some "int"
 | .str _ => some "str"
 | .ref a => match H a with
  | some (.lst _) => some "list"
  | some (.tup _) => some "tuple"
  | _ => none
 | _ => none
def subT (a b:String):Bool:=a == b || (a == "bool" && b == "int")
theorem rqY (K:PySem.W.Frag):∀ a ∈ ["NoneType","bool","int","str","list","tuple"],∀ b ∈ ["bool","int","str","list","tuple"],PySem.W.kitOne K (.type a) (.type b)=some (subT a b):=by
 intro a ha b hb
 simp only [List.mem_cons,List.not_mem_nil,or_false] at ha hb
 rcases ha with rfl | rfl | rfl | rfl | rfl | rfl <;> rcases hb with rfl | rfl | rfl | rfl | rfl <;> with_unfolding_all kernel_rfl
def rIsiU:List V->Hp->VK->Prop:=fun vs H Q => match vs with
 | [x,.ty T] => ∃ k,kindV x H=some k∧T ∈ ["bool","int","str","list","tuple"]∧Q (.bl (subT k T)) H
 | _ => False
theorem dqJ:CallR X (.builtin "isinstance") rIsiU:=by
 intro pins s σ H xs us Q I r h
 unfold rIsiU at h
 split at h
 ·rename_i x T
  obtain ⟨k,hk,hT,q⟩:=h
  have key:TyOf X.K H x (.type k)∧k ∈ ["NoneType","bool","int","str","list","tuple"]:=by
   unfold kindV at hk
   split at hk
   ·cases hk; exact ⟨.non,by decide⟩
   ·cases hk; exact ⟨.bl _,by decide⟩
   ·cases hk; exact ⟨.int _,by decide⟩
   ·cases hk; exact ⟨.str _,by decide⟩
   ·split at hk
    ·rename_i e; cases hk; exact ⟨.lst e,by decide⟩
    ·rename_i e; cases hk; exact ⟨.tup e,by decide⟩
    ·cases hk
   ·cases hk
  exact pq5 pins s σ H _ us Q I r ⟨x,T,.type k,subT k T,rfl,key.1,rqY X.K k key.2 T hT,q⟩
 ·exact h.elim
end
section
variable {σ:St}{H:Hp}{Q:VK}{D:Ends}{K:PySem.W.Frag}{ta tb te:TE}{tt tu:TT}{t u:TS}{aa ab:TA}{v x y:V}{r r':R2}
theorem tq4 {i:Nat}:(tVar i σ H Q)=(∃ v,σ[i]?=some (some v)∧Q v H):=rfl
theorem rd_C:(tC v σ H Q)=(Q v H):=rfl
theorem tql:(tSeq t u D σ H)=(t { D with nx:=u D } σ H):=rfl
theorem uqE {g:TG}:(tAsg te g D σ H)=(te σ H fun x H1 => g x σ H1 D.nx):=rfl
theorem rqz {i:Nat}{R:St->Hp->Prop}:(gName i v σ H R)=(R (σ.set i (some v)) H):=rfl
theorem tq3:(tIfS tt t u D σ H)=(tt σ H fun b H1 => if b=true then t D σ H1 else u D σ H1):=rfl
theorem rqA:(tNext D σ H)=(D.nx σ H):=rfl
theorem uqM:(tBreak D σ H)=(D.bk σ H):=rfl
theorem tqy:(tRet te D σ H)=(te σ H D.rt):=rfl
theorem sqP:(tDrop te D σ H)=(te σ H fun _ H1 => D.nx σ H1):=rfl
theorem uqY:(tOp r ta tb σ H Q)=(ta σ H fun x H1 => tb σ H1 fun y H2 => r x y H2 Q):=rfl
theorem sq1 {R:Bool->Hp->Prop}:(tTest te σ H R)=(te σ H fun x H' => ∃ k,x=.bl k∧R k H'):=rfl
theorem rd_B {R:Bool->Hp->Prop}:(tB te σ H R)=(te σ H fun x H' => ∃ k,x=.bl k∧R k H'):=rfl
theorem tqo {R:Bool->Hp->Prop}:(tAnd tt tu σ H R)=(tt σ H fun c H1 => if c=true then tu σ H1 R else R false H1):=rfl
theorem uqR {R:Bool->Hp->Prop}:(tOr tt tu σ H R)=(tt σ H fun c H1 => if c=true then R true H1 else tu σ H1 R):=rfl
theorem uqA {R:Bool->Hp->Prop}:(tNot tt σ H R)=(tt σ H fun c H1 => R (!c) H1):=rfl
theorem sqB:(tAndV ta tb σ H Q)=(ta σ H fun x H1 => ∃ c,x=.bl c∧if c=true then tb σ H1 Q else Q (.bl false) H1):=rfl
theorem tqO:(tOrV ta tb σ H Q)=(ta σ H fun x H1 => ∃ c,x=.bl c∧if c=true then Q (.bl true) H1 else tb σ H1 Q):=rfl
theorem rqM:(tNotV ta σ H Q)=(ta σ H fun x H1 => ∃ c,x=.bl c∧Q (.bl (!c)) H1):=rfl
theorem uqT:(tIf tt ta tb σ H Q)=(tt σ H fun c H1 => if c=true then ta σ H1 Q else tb σ H1 Q):=rfl
theorem pqJ {tc:TE}:(tChain r r' ta tb tc σ H Q)=(ta σ H fun x H1 => tb σ H1 fun y H2 => r x y H2 fun z H3 => ∃ k,z=.bl k∧(if k=true then tc σ H3 fun w' H4 => r' y w' H4 Q else Q (.bl false) H3)):=rfl
theorem uqr {R:List V->Hp->Prop}:(tNil σ H R)=(R [] H):=rfl
theorem sqm {R:List V->Hp->Prop}:(tCons te aa σ H R)=(te σ H fun x H1 => aa σ H1 fun xs H2 => R (x :: xs) H2):=rfl
theorem tq6:(tLst aa σ H Q)=(aa σ H fun xs H1 => xs.length ≤ sizeLine∧∀ p,H1 p=none->Q (.ref p) (upd H1 p (.lst xs))):=rfl
theorem tqJ:(tTup aa σ H Q)=(aa σ H fun xs H1 => xs.length ≤ sizeLine∧∀ p,H1 p=none->Q (.ref p) (upd H1 p (.tup xs))):=rfl
theorem sqx {sp:Sp}{dvs:List V}{E:XK}:(tCall sp dvs E aa σ H Q)=(aa σ H fun vs H1 => sp (vs ++ dvs) H1 Q E):=rfl
theorem uqU {c:List V->Hp->VK->Prop}:(tCB c aa σ H Q)=(aa σ H fun vs H1 => c vs H1 Q):=rfl
theorem uqX {T:String}{m:V->List V->Hp->VK->Prop}:(tBM K T m te aa σ H Q)=(te σ H fun x H1 => tyV K T x H1∧aa σ H1 fun xs H2 => m x xs H2 Q):=rfl
theorem tqq {T:String}{m:V->List V->Hp->VK->Prop}:(tBM0 K T m te σ H Q)=(te σ H fun x H1 => tyV K T x H1∧m x [] H1 Q):=rfl
theorem uqW {m:V->Option Int->Option Int->Hp->VK->Prop}{tl th:TO}:(tSl m te tl th σ H Q)=(te σ H fun x H1 => tl σ H1 fun l H2 => th σ H2 fun u H3 => m x l u H3 Q):=rfl
theorem pqa {R:Option Int->Hp->Prop}:(tNoPart σ H R)=(R none H):=rfl
theorem tqc {R:Option Int->Hp->Prop}:(tPart te σ H R)=(te σ H fun x H1 => ∃ i,x=.int i∧R (some i) H1):=rfl
theorem qqq {z:Str}:tyV K "str" (.str z) H ↔ True:=⟨fun _ => trivial,fun _ => rfl⟩
theorem rd_I {C:Int->Int->Prop}{g:Int->Int->V}{i j:Int}:rI C g (.int i) (.int j) H Q ↔ C i j∧Q (g i j) H :=
 ⟨fun ⟨_,_,h1,h2,h3⟩ => by cases h1; cases h2; exact h3,fun h => ⟨i,j,rfl,rfl,h⟩⟩
theorem qqx {g:Int->Int->V}{i j:Int}:rI0 g (.int i) (.int j) H Q ↔ Q (g i j) H :=
 ⟨fun ⟨_,_,h1,h2,h3⟩ => by cases h1; cases h2; exact h3,fun h => ⟨i,j,rfl,rfl,h⟩⟩
theorem squ {i j:Int}:rEq (.int i) (.int j) H Q ↔ Q (.bl (decide (i=j))) H:=by
 unfold rEq scal; simp only [true_and,V.int.injEq]
theorem aqy {i j:Str}:rEq (.str i) (.str j) H Q ↔ Q (.bl (decide (i=j))) H:=by
 unfold rEq scal; simp only [true_and,V.str.injEq]
theorem sqb {i j:Bool}:rEq (.bl i) (.bl j) H Q ↔ Q (.bl (decide (i=j))) H:=by
 unfold rEq scal; simp only [true_and,V.bl.injEq]
theorem pqe {i j:Int}:rNe (.int i) (.int j) H Q ↔ Q (.bl (!decide (i=j))) H:=by
 unfold rNe scal; simp only [true_and,V.int.injEq]
theorem jq9 {i j:Str}:rNe (.str i) (.str j) H Q ↔ Q (.bl (!decide (i=j))) H:=by
 unfold rNe scal; simp only [true_and,V.str.injEq]
theorem nqT {i j:Bool}:rNe (.bl i) (.bl j) H Q ↔ Q (.bl (!decide (i=j))) H:=by
 unfold rNe scal; simp only [true_and,V.bl.injEq]
theorem sqr:rNe .non .non H Q ↔ Q (.bl false) H:=⟨fun h => h.2,fun h => ⟨rfl,h⟩⟩
theorem rqV {i:Str}:rNe (.str i) .non H Q ↔ Q (.bl true) H:=⟨fun h => h.2,fun h => ⟨rfl,h⟩⟩
theorem qqG {i:Str}:rNe .non (.str i) H Q ↔ Q (.bl true) H:=⟨fun h => h.2,fun h => ⟨rfl,h⟩⟩
theorem rqE:rEq .non .non H Q ↔ Q (.bl true) H:=⟨fun h => h.2,fun h => ⟨rfl,h⟩⟩
theorem rq7 {i:Str}:rEq (.str i) .non H Q ↔ Q (.bl false) H:=⟨fun h => h.2,fun h => ⟨rfl,h⟩⟩
theorem qqr {i:Str}:rEq .non (.str i) H Q ↔ Q (.bl false) H:=⟨fun h => h.2,fun h => ⟨rfl,h⟩⟩
theorem tqY {z:Str}{i:Int}:rIx K (.str z) (.int i) H Q ↔ ∃ c,z.length ≤ sizeLine∧atI z.cps.toList i=some c∧Q (.str ⟨#[c]⟩) H:=by
 constructor
 ·rintro (⟨p,xs,j,v,h,_⟩ | ⟨p,xs,j,v,h,_⟩ | ⟨z',j,c,h1,h2,h3,h4,h5⟩)
  ·cases h
  ·cases h
  ·cases h1; cases h2; exact ⟨c,h3,h4,h5⟩
 ·rintro ⟨c,h3,h4,h5⟩
  exact .inr (.inr ⟨z,i,c,rfl,rfl,h3,h4,h5⟩)
theorem rqk {z:Str}{lo hi:Option Int}:rSl K (.str z) lo hi H Q ↔ z.length ≤ sizeLine∧Q (.str (Txt.slice z lo hi)) H:=by
 constructor
 ·rintro (⟨a,xs,h,_⟩ | ⟨z',h1,h2,h3⟩)
  ·cases h
  ·cases h1; exact ⟨h2,h3⟩
 ·rintro ⟨h2,h3⟩
  exact .inr ⟨z,rfl,h2,h3⟩
end
section
variable {σ:St}{H:Hp}{Q:VK}{K:PySem.W.Frag}
theorem uqK {a:Addr}{lo hi:Option Int}:rSl K (.ref a) lo hi H Q ↔ ∃ xs,SqL K H a xs∧∀ p,H p=none->Q (.ref p) (upd H p (.lst (cutV xs lo hi))):=by
 constructor
 ·rintro (⟨a',xs,h,h2⟩ | ⟨z',h1,_⟩)
  ·cases h; exact ⟨xs,h2⟩
  ·cases h1
 ·rintro ⟨xs,h2⟩
  exact .inl ⟨a,xs,rfl,h2⟩
theorem nq6 {p:Addr}{i:Int}:rIx K (.ref p) (.int i) H Q ↔ ∃ xs v,(SqL K H p xs ∨ SqT K H p xs)∧atI xs i=some v∧Q v H:=by
 constructor
 ·rintro (⟨p',xs,j,v,h,h2,h3,h4⟩ | ⟨p',xs,j,v,h,h2,h3,h4⟩ | ⟨z',j,c,h1,_⟩)
  ·cases h; cases h2; exact ⟨xs,v,.inl h3,h4⟩
  ·cases h; cases h2; exact ⟨xs,v,.inr h3,h4⟩
  ·cases h1
 ·rintro ⟨xs,v,h | h,h2⟩
  ·exact .inl ⟨p,xs,i,v,rfl,rfl,h,h2⟩
  ·exact .inr (.inl ⟨p,xs,i,v,rfl,rfl,h,h2⟩)
theorem uqB {a b:Addr}:rAddU K (.ref a) (.ref b) H Q ↔ (∃ xs zs,H a=some (.lst xs)∧H b=some (.lst zs)∧xs.length + zs.length ≤ sizeLine∧∀ p,H p=none->Q (.ref p) (upd H p (.lst (xs ++ zs)))) ∨
   (∃ xs ys,H a=some (.tup xs)∧H b=some (.tup ys)∧xs.length + ys.length ≤ sizeLine∧∀ p H',Same H H'->H' p=some (.tup (xs ++ ys))->Q (.ref p) H'):=Iff.rfl
theorem cx_K {CX:CXT}{P:Program}{w:World}{mg:Str->Option Value}{base:Heap}{N:List Str}{qual:Str}{scope:Scope}{f:Addr}{cd:Value}{A:Around}{outer:List Env}{s:Shared}{E:XK} :
  (cxOf CX P w K mg base N qual scope f cd A outer s H E).K=K:=rfl
end
def LoopI (J:It) (g:TG) (tb:TS) (D:Ends) (σ:St) (H:Hp):Prop:=∃ W:Nat->Nat->St->Hp->Prop,(∃ m,W 0 m σ H)∧∀ i m σ H,W i m σ H ->
 (J.stop i H∧D.nx σ H) ∨ (J.go i H∧∃ N:St->Hp->Prop,(∀ σ' H',N σ' H'->∃ m',m' < m∧W (i + 1) m' σ' H')∧∀ x H',J.yld i H x H'->g x σ H' fun σ2 H2 => tb { D with nx:=N,ct:=N,bk:=D.nx } σ2 H2)
section
variable {σ:St}{H:Hp}{D:Ends}{K:PySem.W.Frag}{te:TE}{g:TG}{tb:TS}{aa:TA}
theorem sqK:(tFor (iStr te) g tb D σ H)=(te σ H fun x H1 => ∃ z,x=.str z∧LoopI (Its z) g tb D σ H1):=rfl
theorem sqq:(tFor (iList K te) g tb D σ H)=(te σ H fun x H1 => ∃ a,x=.ref a∧(∃ xs,SqL K H1 a xs)∧LoopI (Itl K a) g tb D σ H1):=rfl
theorem tqd:(tFor (iRng1 aa) g tb D σ H)=(aa σ H fun vs H1 => ∃ j:Int,vs=[.int j]∧-(2 ^ 62) ≤ j∧j < 2 ^ 62∧LoopI (Itr 0 j.toNat) g tb D σ H1):=rfl
theorem gqw {a:Addr}{xs:List V} (Pv:Nat->St->Hp->Prop) (h0:Pv 0 σ H) (hl:∀ i σ H,i ≤ xs.length->Pv i σ H->SqL K H a xs)
  (hs:∀ i x σ H,xs[i]?=some x->Pv i σ H->g x σ H fun σ2 H2 => tb { D with nx:=Pv (i + 1),ct:=Pv (i + 1),bk:=D.nx } σ2 H2) (hd:∀ σ H,Pv xs.length σ H->D.nx σ H):LoopI (Itl K a) g tb D σ H:=qqQ Pv h0 hl hs hd
theorem dqQ {lo:Int}{n:Nat} (Pv:Nat->St->Hp->Prop) (h0:Pv 0 σ H)
  (hs:∀ i σ H,i < n->Pv i σ H->g (.int (lo + i)) σ H fun σ2 H2 => tb { D with nx:=Pv (i + 1),ct:=Pv (i + 1),bk:=D.nx } σ2 H2) (hd:∀ σ H,Pv n σ H->D.nx σ H):LoopI (Itr lo n) g tb D σ H:=oqJ Pv h0 hs hd
end
section
variable {prog:Program}{w:World}{A:Around}{R:Result->Shared->Prop}{s:Shared}
theorem gq3 {elt target iter:Expr}{ifs:List Expr}{scope:Scope}{pos:Pos}{it acc:Value}{env:Env} (I:Nat->Shared->Prop)
  (turn:∀ n s,I n s->wpAny (model prog w) A (pyNext it) (fun r s₁ => match r with
   | none => R (.ok .next) s₁
   | some v => wpAny (model prog w) A (letOwnedTupleGo target it v) (fun _ s₁' => wpAny (model prog w) A (assign target env v) (fun _ s₂ =>
     wpAny (model prog w) A (forIn ifs true fun c r => if r=true then do let ok <- isTrue c env (eval c env); pure (ForInStep.yield ok) else pure (ForInStep.yield r)) (fun ok s₃ =>
      if ok=true then wpAny (model prog w) A (eval elt env) (fun x s₄ =>
       wpAny (model prog w) A (call (.builtin "list.append") [acc,x]) (fun _ s₅ => ∃ m,m < n∧I m s₅) (fun _ _ => False) s₄) (fun _ _ => False) s₃
      else ∃ m,m < n∧I m s₃) (fun _ _ => False) s₂) (fun _ _ => False) s₁') (fun _ _ => False) s₁) (fun _ _ => False) s)
  (n:Nat) (h:I n s):codeAny (model prog w) A (.compLoop (.ListComp elt [⟨target,iter,ifs,0⟩] scope pos) 0 it acc env) R s:=by
 refine codeAny_loop rfl I (fun n s hI => ?_) n h
 show wpAny _ A ((compTurn (.ListComp elt [⟨target,iter,ifs,0⟩] scope pos) 0 it acc env).onRaise (fun x => do noteFrame x env; theTreesLotGoes x)) _ _ s
 refine wpAny_noted ?_
 rw [compTurn_list]
 refine wpAny_bind (wpAny_standAt (wpAny_bind (wpAny_mono (turn n s hI) (fun r s₁ h₁ => ?_) fun _ _ h' => h'.elim)))
 cases r with
 | none => exact wpAny_pure h₁
 | some v =>
  refine wpAny_bind (wpAny_mono h₁ (fun _ s₁' h₁' => wpAny_bind (wpAny_mono h₁' (fun _ s₂ h₂ => wpAny_bind (wpAny_mono h₂ (fun ok s₃ h₃ => ?_) fun _ _ h' => h'.elim)) fun _ _ h' => h'.elim)) fun _ _ h' => h'.elim)
  cases ok with
  | false => exact wpAny_pure ⟨rfl,h₃⟩
  | true =>
   exact wpAny_bind (wpAny_bind (wpAny_mono h₃ (fun x s₄ h₄ => wpAny_bind (wpAny_mono h₄ (fun _ s₅ h₅ => wpAny_pure (wpAny_pure ⟨rfl,h₅⟩)) fun _ _ h' => h'.elim)) fun _ _ h' => h'.elim))
end
def compCx (X:Cx) (N':List Str) (scope:Scope) (cl:List (Str × Addr)) (s:Shared) (H:Hp) (fp:List Addr):Cx :=
 { X with N:=N',s₀:=s,H₀:=H,env:=compEnvC scope cl s.heap.objs.size X.env,outer:=X.stack,stack:=X.stack,ex:=fp,fn:=fun _ => false,pn:=[],xe:=fun _ _ => False }
inductive Frees (X:Cx) (rs:Scope) (cl:List (Str × Addr)):List Str->List Nat->Prop where
 | nil:Frees X rs cl [] []
 | cons {y:Str}{i:Nat}{fx:List Str}{fr:List Nat} (h1:X.N[i]?=some y) (h2:X.env.kindOf y=some .cell) (h3:rs.names.lookup y=some .cell) (h4:cl.lookup y=X.env.cells.lookup y) (r:Frees X rs cl fx fr):Frees X rs cl (y :: fx) (i :: fr)
def frV (σ:St) (fr:List Nat):St:=fr.map fun i => (σ[i]?).getD none
theorem Frees.len {X:Cx}{rs:Scope}{cl:List (Str × Addr)}{fx:List Str}{fr:List Nat} (F:Frees X rs cl fx fr):fr.length=fx.length:=by
 induction F with
 | nil => rfl
 | cons _ _ _ _ _ ih => simp [ih]
theorem Frees.at {X:Cx}{rs:Scope}{cl:List (Str × Addr)}{σ:St}:∀ {fx:List Str}{fr:List Nat},Frees X rs cl fx fr->∀ (j:Nat) (y:Str) (v:V),fx[j]?=some y->(frV σ fr)[j]?=some (some v) ->
  ∃ i:Nat,X.N[i]?=some y∧σ[i]?=some (some v)∧X.env.kindOf y=some .cell∧rs.names.lookup y=some .cell∧cl.lookup y=X.env.cells.lookup y
 | _,_,.nil,j,y,v,h,_ => by simp at h
 | _,_,.cons (y:=z) (i:=i) h1 h2 h3 h4 r,0,y,v,h,hv => by
  simp only [List.getElem?_cons_zero,Option.some.injEq] at h
  subst h
  simp only [frV,List.map_cons,List.getElem?_cons_zero,Option.some.injEq] at hv
  refine ⟨i,h1,?_,h2,h3,h4⟩
  cases e:σ[i]? with
  | none => rw [e] at hv; cases hv
  | some o => rw [e] at hv; exact congrArg some hv
 | _,_,.cons h1 h2 h3 h4 r,j + 1,y,v,h,hv => by
  simp only [List.getElem?_cons_succ] at h
  simp only [frV,List.map_cons,List.getElem?_cons_succ] at hv
  exact r.at j y v h hv
theorem Frees.mem {X:Cx}{rs:Scope}{cl:List (Str × Addr)}:∀ {fx:List Str}{fr:List Nat},Frees X rs cl fx fr->∀ y ∈ fx,X.env.kindOf y=some .cell∧cl.lookup y=X.env.cells.lookup y
 | _,_,.nil,y,h => by simp at h
 | _,_,.cons h1 h2 h3 h4 r,y,h => by
  rcases List.mem_cons.mp h with rfl | h
  ·exact ⟨h2,h4⟩
  ·exact r.mem y h
section
variable {X:Cx}{pins:List (Addr × Obj)}{σ:St}{H1:Hp}{s3:Shared}{x:Str}{fx:List Str}{fr:List Nat}{scope:Scope}{cl:List (Str × Addr)}{fp:List Addr}
theorem rqH (I:Inv X pins σ H1 s3) (hkind:scope.kind=.function) (hcl:∀ y c,cl.lookup y=some c->X.env.cells.lookup y=some c)
  (F:Frees X (relabel scope X.env) cl fx fr) (hfx:((relabel scope X.env).names.all fun p => if (p.2 == .cell || p.2 == .free) then fx.contains p.1 else true)=true)
  (ffp:∀ b ∈ fp,FpOk X pins H1 b) (flt:∀ b ∈ fp,b < s3.heap.objs.size):(compCx X (x :: fx) scope cl s3 H1 fp).Ok where
 mod:=I.ok.mod
 kind:=hkind
 glob:=I.ok.glob
 blt:=I.ok.blt
 above:=Nat.le_refl _
 inj:=fun y z c h1 h2 => I.ok.inj y z c (hcl y c h1) (hcl z c h2)
 has:=fun y h => by
  have h:(relabel scope X.env).names.lookup y=some .cell ∨ (relabel scope X.env).names.lookup y=some .free:=h
  have key:y ∈ fx:=by
   rcases h with h | h
   ·have q:=List.all_eq_true.mp hfx _ (PySem.mem_of_lookup h)
    simpa using q
   ·have q:=List.all_eq_true.mp hfx _ (PySem.mem_of_lookup h)
    simpa using q
  obtain ⟨k1,k2⟩:=F.mem y key
  obtain ⟨c,e⟩:=I.ok.has y (.inl k1)
  exact ⟨c,k2.trans e⟩
 cab:=fun y c h => by cases (show false=true from h)
 hd:=I.ok.hd
 frames:=I.ok.frames
 stk:=.inl rfl
 exf:=fun b hb => ⟨Nat.ne_of_lt (flt b hb),fun y c e => (ffp b hb).2.2.2.2.1 y c (hcl y c e)⟩
 bs:=I.bs
 bsz:=Nat.le_trans I.ok.bsz I.sz
 noex:=fun b o e hb => by
  rcases (ffp b hb).2.2.2.1 with z | z
  ·exact I.ok.noex b o e z
  ·exact absurd (Nat.lt_of_lt_of_le (Heap.lt_size (I.ok.bs b o e).1) z) (Nat.lt_irrefl _)
 exfs:=fun b hb z => by
  rcases List.mem_cons.mp (I.stkSub b z) with q | q
  ·exact (ffp b hb).2.1 q
  ·exact (ffp b hb).2.2.1 q
 funs:=I.stack
 frf:=I.stkFree
theorem mqS (I:Inv X pins σ H1 s3) (hkind:scope.kind=.function) (hcl:∀ y c,cl.lookup y=some c->X.env.cells.lookup y=some c)
  (F:Frees X (relabel scope X.env) cl fx fr) (hfx:((relabel scope X.env).names.all fun p => if (p.2 == .cell || p.2 == .free) then fx.contains p.1 else true)=true)
  (ffp:∀ b ∈ fp,FpOk X pins H1 b) (flt:∀ b ∈ fp,b < s3.heap.objs.size) {h1:Heap}{t:Nat}{m:Str->Option Value} (hn:h1.Ns s3.heap.objs.size m)
  (keep:∀ b u,s3.heap.get? b=some u->h1.get? b=some u):Inv (compCx X (x :: fx) scope cl s3 H1 fp) [] (none :: frV σ fr) H1 { s3 with heap:=h1,toks:=t }:=by
 refine ⟨rqH I hkind hcl F hfx ffp flt,rfl,I.bare,Un.kept keep,⟨m,hn,fun i y v e1 e2 e3 => ?_⟩,fun y c e => ?_,I.hok.fresh (Nat.le_refl _),fun y c e => I.freeC y c (hcl y c e),fun p hp => absurd (show p ∈ ([]:List (Addr × Obj)) from hp) (by simp),I.hok.kept keep,?_⟩
 ·cases i with
  | zero => simp at e2
  | succ j =>
   obtain ⟨i0,k1,k2,k3,k4,k5⟩:=F.at (σ:=σ) j y v (by simpa [compCx] using e1) (by simpa using e2)
   obtain ⟨m0,hn0,hl0⟩:=I.loc
   obtain ⟨u,r,l⟩:=hl0 i0 y v k1 k2 (.inr (.inl k3))
   refine ⟨u,r,?_⟩
   rcases l with ⟨z,_⟩ | ⟨_,c,e,o,ho,hd⟩
   ·rw [k3] at z; cases z
   ·exact .inr ⟨.inl k4,c,k5.trans e,o,keep c o ho,hd⟩
 ·obtain ⟨v,o,ho,hd⟩:=I.cell y c (hcl y c e)
  exact ⟨v,o,keep c o ho,hd⟩
 ·show (none :: frV σ fr).length=(x :: fx).length
  simp [frV,F.len]
theorem fqQ {N':List Str}{pins':List (Addr × Obj)}{σ':St}{H2:Hp}{s':Shared}{h':Heap} (I:Inv X pins σ H1 s3) (J:Inv (compCx X N' scope cl s3 H1 fp) pins' σ' H2 s') (ffp:∀ b ∈ fp,FpOk X pins H1 b)
  (sb:Heap.SameBut s3.heap.objs.size s'.heap h'):Inv X pins σ H2 { s' with heap:=h' }:=by
 have k:∀ b u,b ≠ s3.heap.objs.size->s'.heap.get? b=some u->h'.get? b=some u:=fun b u hb e => sb.extBut b u hb e
 have lt:∀ b u,s3.heap.get? b=some u->b ≠ s3.heap.objs.size:=fun b u e => Nat.ne_of_lt (Heap.lt_size e)
 have u:Un (frs X.stack) fp H1 H2 s3.heap s'.heap:=J.base
 have u':Un (frs X.stack) fp H1 H2 s3.heap h' :=
  ⟨fun b o q n hb hx => k b o (lt b o q) (u.keep b o q n hb hx),fun b o q n hb hx => by
    obtain ⟨sl,e⟩:=u.slot b o q n hb hx
    exact ⟨sl,k b _ (lt b o q) e⟩,u.free,fun b o q hx => by
    obtain ⟨o',e⟩:=u.there b o q hx
    exact ⟨o',k b _ (lt b o q) e⟩,u.tups,u.frzs,u.tbls⟩
 have nC:H2 s3.heap.objs.size=none:=J.free
 have hok:HOk X.prog X.w H2 h':=fun b uo e => by
  refine (J.hok b uo e).stay (fun c v hc q => k c v ?_ q) (fun _ q => q) fun _ _ q => q
  rintro rfl
  rcases hc with z | z
  ·rw [<- z,nC] at e; cases e
  ·rw [nC] at z; cases z
 have os:s'.os=s3.os:=J.os
 have bare:=J.bare
 obtain ⟨hh,g,d,t,os'⟩:=s'
 obtain rfl:os'=s3.os:=os
 have fin:=I.call (h':=h') (g':=g) (d':=d) (t':=t) (ch:=fp) u' hok bare fun b hb => by
  obtain ⟨f0,f1,f2,f3,f4,f5⟩:=ffp b hb
  exact ⟨f3,f1,f4,f5⟩
 exact fin
end
def PF (X:Cx) (ifs:List Expr) (t:TT):Prop :=
 ∀ (pins:List (Addr × Obj)) (s:Shared) (σ:St) (H:Hp) (Q:Bool->Hp->Prop),Inv X pins σ H s->t σ H Q ->
  wpAny (model X.prog X.w) X.A (forIn ifs true fun c r => if r=true then do let ok <- isTrue c X.env (eval c X.env); pure (ForInStep.yield ok) else pure (ForInStep.yield r)) (TP X pins σ Q) X.xe s
def tYes:TT:=fun _ H Q => Q true H
theorem mqr {X:Cx}:PF X [] tYes:=fun _ _ _ H _ I h => wpAny_tests_nil ⟨H,I,h⟩
theorem iqZ {X:Cx}{c:Expr}{t:TT} (h:PT X c t):PF X [c] t:=fun pins s σ H Q I q => wpAny_tests_one (h pins s σ H Q I q)
def CompI (J:It) (p:Addr) (fv:St) (tt:TT) (te:TE) (Q:VK) (H1:Hp):Prop :=
 ∃ W:Nat->Nat->List V->Hp->Prop,(∃ m,W 0 m [] (upd H1 p (.lst [])))∧∀ i m ys H2,W i m ys H2->H2 p=some (.lst ys) ∧
  ((J.stop i H2∧Q (.ref p) H2) ∨ (J.go i H2∧ys.length < sizeLine∧∀ x H3,J.yld i H2 x H3->tt (some x :: fv) H3 fun b H4 =>
   if b=true then te (some x :: fv) H4 fun y H5 => H5 p=some (.lst ys)∧∃ m',m' < m∧W (i + 1) m' (ys ++ [y]) (upd H5 p (.lst (ys ++ [y])))
   else ∃ m',m' < m∧W (i + 1) m' ys H4))
def tComp (wi:TI) (fr:List Nat) (tt:TT) (te:TE):TE:=fun σ H Q => wi σ H fun J H1 => ∀ p,H1 p=none->CompI J p (frV σ fr) tt te Q H1
section
variable {X:Cx}{elt iter:Expr}{x:Str}{px pos:Pos}{ifs:List Expr}{scope:Scope}{cl:List (Str × Addr)}{fx:List Str}{fr:List Nat}{wi:TI}{tt:TT}{te:TE}
theorem iqW {pins:List (Addr × Obj)}{σ:St}{H3:Hp}{s3:Shared}{it p:Addr}{fp:List Addr}{tn:Nat->Heap->Prop}{J:It}{Q:VK}{W:Nat->Nat->List V->Hp->Prop}{m0 t:Nat}{h₁:Heap}{m:Str->Option Value}{RR:Result->Shared->Prop}
  (hc:X.calm=true) (hkind:scope.kind=.function) (hx:scope.names.lookup x=some .local) (hnd:(x :: fx).Nodup)
  (hcl:∀ y c,cl.lookup y=some c->X.env.cells.lookup y=some c) (F:Frees X (relabel scope X.env) cl fx fr)
  (hfx:((relabel scope X.env).names.all fun p => if (p.2 == .cell || p.2 == .free) then fx.contains p.1 else true)=true)
  (ht:∀ s H fp,PF (compCx X (x :: fx) scope cl s H fp) ifs tt) (he:∀ s H fp,PE (compCx X (x :: fx) scope cl s H fp) elt te)
  (I3:Inv X pins σ H3 s3) (T:Turn X.prog X.w X.K (.Name x px) J fp it tn) (st3:tn 0 s3.heap) (ffp:∀ b ∈ fp,FpOk X pins H3 b) (flt3:∀ b ∈ fp,b < s3.heap.objs.size)
  (w0:W 0 m0 [] H3) (turn:∀ i m ys H2,W i m ys H2->H2 p=some (.lst ys) ∧
   ((J.stop i H2∧Q (.ref p) H2) ∨ (J.go i H2∧ys.length < sizeLine∧∀ x H3,J.yld i H2 x H3->tt (some x :: frV σ fr) H3 fun b H4 =>
    if b=true then te (some x :: frV σ fr) H4 fun y H5 => H5 p=some (.lst ys)∧∃ m',m' < m∧W (i + 1) m' (ys ++ [y]) (upd H5 p (.lst (ys ++ [y])))
    else ∃ m',m' < m∧W (i + 1) m' ys H4)))
  (hns:h₁.Ns s3.heap.objs.size m) (keep1:∀ b u,s3.heap.get? b=some u->h₁.get? b=some u)
  (fin:∀ s6 H5 o,Inv (compCx X (x :: fx) scope cl s3 H3 fp) [] (o :: frV σ fr) H5 s6->Q (.ref p) H5->RR (.ok .next) s6) :
  codeAny (model X.prog X.w) X.A (.compStart (.ListComp elt [⟨.Name x px,iter,ifs,0⟩] scope pos) 0 (.ref it) (.ref p) (compEnvC scope cl s3.heap.objs.size X.env))
   RR { s3 with heap:=h₁,toks:=t }:=by
 have I4:=mqS (x:=x) (t:=t) I3 hkind hcl F hfx ffp flt3 hns keep1
 have st4:tn 0 h₁:=T.keep _ _ _ st3 fun b hb o e => keep1 b o e
 have fp0:∀ b ∈ fp,H3 b=none:=fun b hb => (ffp b hb).1
 have hcal:(compCx X (x :: fx) scope cl s3 H3 fp).calm=true:=hc
 have stat:∀ {H':Hp},(∀ b ∈ fp,H' b=none)->∀ b ∈ fp,FpOk (compCx X (x :: fx) scope cl s3 H3 fp) [] H' b:=fun {H'} hn b hb => by
  obtain ⟨f0,f1,f2,f3,f4,f5⟩:=ffp b hb
  exact ⟨hn b hb,Nat.ne_of_lt (flt3 b hb),I4.ok.exfs b hb,.inl hb,fun y c e => f4 y c (hcl y c e),fun q hq => absurd (show q ∈ ([]:List (Addr × Obj)) from hq) (by simp)⟩
 have hxl:(relabel scope X.env).names.lookup x=some .local:=lookup_relabel_local hx
 have pg:PG (compCx X (x :: fx) scope cl s3 H3 fp) (.Name x px) (gName 0):=aqE (i:=0) hnd rfl (.inl hxl) (.inr hxl)
 have loop:codeAny (model X.prog X.w) X.A (.compLoop (.ListComp elt [⟨.Name x px,iter,ifs,0⟩] scope pos) 0 (.ref it) (.ref p) (compEnvC scope cl s3.heap.objs.size X.env))
    RR { s3 with heap:=h₁,toks:=t }:=by
  refine gq3 (fun n s' => ∃ i ys H' o,Inv (compCx X (x :: fx) scope cl s3 H3 fp) [] (o :: frV σ fr) H' s'∧tn i s'.heap∧(∀ b ∈ fp,H' b=none)∧W i n ys H') ?_ m0 ⟨0,[],_,none,I4,st4,fp0,w0⟩
  rintro n s5 ⟨i,ys,H5,o,I5,st5,fr5,w5⟩
  obtain ⟨hp5,alt⟩:=turn i n ys H5 w5
  rcases alt with ⟨stop,qn⟩ | ⟨go,hlen,step⟩
  ·refine thn (T.done (compCx X (x :: fx) scope cl s3 H3 fp) rfl rfl rfl hcal i [] s5 (o :: frV σ fr) H5 _ I5 (stat fr5) st5 stop) fun r s6 W' => ?_
   obtain ⟨hr,I6⟩:=W'
   subst hr
   exact fin s6 H5 o I6 qn
  ·refine thn (T.item (compCx X (x :: fx) scope cl s3 H3 fp) rfl rfl rfl hcal i [] s5 (o :: frV σ fr) H5 _ I5 (stat fr5) st5 go) fun r s6 W' => ?_
   obtain ⟨u,hr,h6⟩:=W'
   subst hr
   refine thn h6 fun _ s7 W' => ?_
   obtain ⟨y7,H7,I7,r7,yl7,st7,fr7⟩:=W'
   have I7':=I7.pinned (stat fr7) (T.obj _ _ st7)
   have back:∀ {σ':St}{H':Hp}{s':Shared},Inv (compCx X (x :: fx) scope cl s3 H3 fp) ([] ++ pinsAt fp s7.heap) σ' H' s'->tn (i + 1) s'.heap∧∀ b ∈ fp,H' b=none:=fun {σ' H' s'} I' => by
    refine ⟨T.keep _ _ _ st7 fun b hb o e => (I'.pin (b,o) (List.mem_append_right _ (List.mem_append_right _ (cqR hb e)))).1,fun b hb => ?_⟩
    obtain ⟨o,e,d⟩:=T.obj _ _ st7 b hb
    exact (I'.pin (b,o) (List.mem_append_right _ (List.mem_append_right _ (cqR hb e)))).2.1
   refine thn (pg _ s7 _ H7 y7 u (fun σ' H' => σ'=some y7 :: frV σ fr∧H'=H7) I7' r7 ⟨rfl,rfl⟩) fun _ s8 W' => ?_
   obtain ⟨σ8,H8,I8,e8,e8'⟩:=W'
   subst e8 e8'
   refine thn (ht s3 H3 fp _ s8 _ _ _ I8 (step y7 _ yl7)) fun b s9 W' => ?_
   obtain ⟨H9,I9,q9⟩:=W'
   cases b with
   | false =>
    rw [if_neg Bool.false_ne_true] at q9 ⊢
    obtain ⟨m',hm,w9⟩:=q9
    exact ⟨m',hm,i + 1,ys,H9,some y7,I9.unpinned,(back I9).1,(back I9).2,w9⟩
   | true =>
    rw [if_pos rfl] at q9 ⊢
    refine thn (he s3 H3 fp _ s9 _ H9 _ I9 q9) fun u10 s10 W' => ?_
    obtain ⟨y10,H10,I10,r10,hp10,m',hm,w10⟩:=W'
    refine thn (bqe _ s10 _ H10 (.ref p) [y10] (.ref p) [u10] (fun _ H' => H'=upd H10 p (.lst (ys ++ [y10]))) I10 rfl (.cons r10 .nil) ⟨p,ys,y10,rfl,rfl,hp10,hlen,rfl⟩) fun _ s11 W' => ?_
    obtain ⟨_,H11,I11,_,e11⟩:=W'
    subst e11
    exact ⟨m',hm,i + 1,ys ++ [y10],_,some y7,I11.unpinned,(back I11).1,(back I11).2,w10⟩
 exact codeAny_compStart_list loop (T.self _ 0 _ _ _ st4 loop)
theorem hqJ (hc:X.calm=true) (hclos:closureFor scope X.env=pure cl) (hcell:∀ y ∈ scope.names,y.2 ≠ .cell) (hkind:scope.kind=.function)
  (hnames:∀ y ∈ scope.names,y.2=.local->scope.names.lookup y.1=some .local) (hx:scope.names.lookup x=some .local) (hnd:(x :: fx).Nodup)
  (hk:(cl.all fun q => fx.contains q.1)=true) (F:Frees X (relabel scope X.env) cl fx fr)
  (hfx:((relabel scope X.env).names.all fun p => if (p.2 == .cell || p.2 == .free) then fx.contains p.1 else true)=true)
  (hi:PI X (.Name x px) iter wi) (ht:∀ s H fp,PF (compCx X (x :: fx) scope cl s H fp) ifs tt) (he:∀ s H fp,PE (compCx X (x :: fx) scope cl s H fp) elt te)
  (hs:∀ x,foldedSetIterable iter X.env x=pure x:=by intro _; rfl) :
  PE X (.ListComp elt [⟨.Name x px,iter,ifs,0⟩] scope pos) (tComp wi fr tt te):=by
 intro pins s σ H Q I h
 have hcl:∀ y c,cl.lookup y=some c->X.env.cells.lookup y=some c:=fun y c e => by
  have q:=List.all_eq_true.mp hk _ (PySem.mem_of_lookup e)
  rw [<- (F.mem y (by simpa using q)).2]
  exact e
 rw [eval_ListComp]
 refine wpAny_comprehension_free (use:=none) rfl hs hclos hkind hnames ?_
 refine thn (hi pins s σ H _ I h) fun v s1 h1 => thn h1 fun itv s2 h2 => ?_
 obtain ⟨it,fp,tn,J,H2,e,I2,T,st2,f2,q2⟩:=h2
 subst e
 have hp0:H2 s2.heap.objs.size=none:=I2.hok.fresh (Nat.le_refl _)
 obtain ⟨W,⟨m0,w0⟩,turn⟩:=q2 _ hp0
 have flt:∀ b ∈ fp,b < s2.heap.objs.size:=fun b hb => by
  obtain ⟨o,e,_⟩:=T.obj _ _ st2 b hb
  exact Heap.lt_size e
 refine wpAny_newObj_type (wpAny_newFunctionEnv hcell (by intro y hy; simp at hy) (fun h₁ hns₁ hsb₁ => ?_) hkind)
 dsimp only at hns₁ hsb₁ ⊢
 have hlay:∀ b u,s2.heap.get? b=some u->(s2.heap.push { cls:=.type "list",dict:=none,data:=.seq ([]:List Value).toArray }).get? b=some u:=fun b u e => Heap.get?_push_of_some _ e
 have hnew:(s2.heap.push { cls:=.type "list",dict:=none,data:=.seq ([]:List Value).toArray }).get? s2.heap.objs.size=some { cls:=.type "list",dict:=none,data:=.seq ([]:List Value).toArray }:=Heap.get?_push_size _ rfl
 have hsz:(s2.heap.push { cls:=.type "list",dict:=none,data:=.seq ([]:List Value).toArray }).objs.size=s2.heap.objs.size + 1:=Heap.size_push _ _
 generalize hHH:s2.heap.push { cls:=.type "list",dict:=none,data:=.seq ([]:List Value).toArray }=HH at hns₁ hsb₁ hlay hnew hsz ⊢
 have I3:Inv X pins σ (upd H2 s2.heap.objs.size (.lst [])) { s2 with heap:=HH,toks:=s2.toks } :=
  I2.laid (t':=s2.toks) (o:=.lst []) hlay (Nat.le_refl _) ⟨Nat.zero_le _,[],0,.nil,hnew⟩
 have ffp:∀ b ∈ fp,FpOk X pins (upd H2 s2.heap.objs.size (.lst [])) b:=fun b hb => by
  obtain ⟨f0,fr'⟩:=f2 b hb
  exact ⟨by rw [aqq (Nat.ne_of_lt (flt b hb))]; exact f0,fr'⟩
 have keep1:∀ b u,HH.get? b=some u->h₁.get? b=some u:=fun b u e => hsb₁.extBut b u (Nat.ne_of_lt (Heap.lt_size e)) (Heap.get?_push_of_some _ e)
 exact iqW (s3:={ s2 with heap:=HH,toks:=s2.toks }) hc hkind hx hnd hcl F hfx ht he I3 T (T.keep _ _ _ st2 fun b hb o e => hlay b o e) ffp (fun b hb => by show b < HH.objs.size; rw [hsz]; exact Nat.lt_succ_of_lt (flt b hb)) w0 turn hns₁ keep1 fun s6 H5 o I6 qn => by
  obtain ⟨m,hn6,_⟩:=id I6.loc
  exact ⟨m,hn6,fun h' sb => ⟨.ref _,H5,fqQ I3 I6 ffp sb,rfl,qn⟩⟩
theorem lqF {i:Nat}{y:Str}{py spos:Pos} (hN:X.N.Nodup) (hiN:X.N[i]?=some y) (hy:X.env.scope.names.lookup y=some .local)
  (hc:X.calm=true) (hclos:closureFor scope X.env=pure cl) (hcell:∀ y ∈ scope.names,y.2 ≠ .cell) (hkind:scope.kind=.function)
  (hnames:∀ y ∈ scope.names,y.2=.local->scope.names.lookup y.1=some .local) (hx:scope.names.lookup x=some .local) (hnd:(x :: fx).Nodup)
  (hk:(cl.all fun q => fx.contains q.1)=true) (F:Frees X (relabel scope X.env) cl fx fr)
  (hfx:((relabel scope X.env).names.all fun p => if (p.2 == .cell || p.2 == .free) then fx.contains p.1 else true)=true)
  (hi:PI X (.Name x px) iter wi) (ht:∀ s H fp,PF (compCx X (x :: fx) scope cl s H fp) ifs tt) (he:∀ s H fp,PE (compCx X (x :: fx) scope cl s H fp) elt te)
  (hs:∀ x,foldedSetIterable iter X.env x=pure x:=by intro _; rfl) (hsw:swapsWith (.ListComp elt [⟨.Name x px,iter,ifs,0⟩] scope pos) (some (.Name y py)) spos.line X.env=pure true:=by rfl) :
  PS X (.Assign [.Name y py] (.ListComp elt [⟨.Name x px,iter,ifs,0⟩] scope pos) spos) (tAsg (tComp wi fr tt te) (gName i)):=by
 intro pins s σ H D I h
 have hcl:∀ y c,cl.lookup y=some c->X.env.cells.lookup y=some c:=fun y c e => by
  have q:=List.all_eq_true.mp hk _ (PySem.mem_of_lookup e)
  rw [<- (F.mem y (by simpa using q)).2]
  exact e
 rw [exec_Assign_Name_used _ _ _ _ hsw]
 refine wpAny_bind (wpAny_standAt (wpAny_bind ?_))
 show wpAny _ X.A (do let _ <- comprehension (.ListComp elt [⟨.Name x px,iter,ifs,0⟩] scope pos) scope X.env _ (newList []) false (eval iter X.env) (some (assign (.Name y py) X.env))) _ _ s
 refine wpAny_bind (wpAny_mono (wpAny_comprehension_free (use:=some (assign (.Name y py) X.env)) (Q:=fun _ s' => SP X pins D .next s') rfl hs hclos hkind hnames ?_) (fun _ s' hq => wpAny_pure (wpAny_pure hq)) fun _ _ e => e)
 refine thn (hi pins s σ H _ I h) fun v s1 h1 => thn h1 fun itv s2 h2 => ?_
 obtain ⟨it,fp,tn,J,H2,e,I2,T,st2,f2,q2⟩:=h2
 subst e
 have hp0:H2 s2.heap.objs.size=none:=I2.hok.fresh (Nat.le_refl _)
 obtain ⟨W,⟨m0,w0⟩,turn⟩:=q2 _ hp0
 have flt:∀ b ∈ fp,b < s2.heap.objs.size:=fun b hb => by
  obtain ⟨o,e,_⟩:=T.obj _ _ st2 b hb
  exact Heap.lt_size e
 refine wpAny_newObj_type (wpAny_newFunctionEnv hcell (by intro y hy; simp at hy) (fun h₁ hns₁ hsb₁ => ?_) hkind)
 dsimp only at hns₁ hsb₁ ⊢
 have hlay:∀ b u,s2.heap.get? b=some u->(s2.heap.push { cls:=.type "list",dict:=none,data:=.seq ([]:List Value).toArray }).get? b=some u:=fun b u e => Heap.get?_push_of_some _ e
 have hnew:(s2.heap.push { cls:=.type "list",dict:=none,data:=.seq ([]:List Value).toArray }).get? s2.heap.objs.size=some { cls:=.type "list",dict:=none,data:=.seq ([]:List Value).toArray }:=Heap.get?_push_size _ rfl
 have hsz:(s2.heap.push { cls:=.type "list",dict:=none,data:=.seq ([]:List Value).toArray }).objs.size=s2.heap.objs.size + 1:=Heap.size_push _ _
 generalize hHH:s2.heap.push { cls:=.type "list",dict:=none,data:=.seq ([]:List Value).toArray }=HH at hns₁ hsb₁ hlay hnew hsz ⊢
 have I3:Inv X pins σ (upd H2 s2.heap.objs.size (.lst [])) { s2 with heap:=HH,toks:=s2.toks } :=
  I2.laid (t':=s2.toks) (o:=.lst []) hlay (Nat.le_refl _) ⟨Nat.zero_le _,[],0,.nil,hnew⟩
 have ffp:∀ b ∈ fp,FpOk X pins (upd H2 s2.heap.objs.size (.lst [])) b:=fun b hb => by
  obtain ⟨f0,fr'⟩:=f2 b hb
  exact ⟨by rw [aqq (Nat.ne_of_lt (flt b hb))]; exact f0,fr'⟩
 have keep1:∀ b u,HH.get? b=some u->h₁.get? b=some u:=fun b u e => hsb₁.extBut b u (Nat.ne_of_lt (Heap.lt_size e)) (Heap.get?_push_of_some _ e)
 exact iqW (Q:=fun x H1 => gName i x σ H1 D.nx) (s3:={ s2 with heap:=HH,toks:=s2.toks }) hc hkind hx hnd hcl F hfx ht he I3 T (T.keep _ _ _ st2 fun b hb o e => hlay b o e) ffp (fun b hb => by show b < HH.objs.size; rw [hsz]; exact Nat.lt_succ_of_lt (flt b hb)) w0 turn hns₁ keep1 fun s6 H5 o I6 qn => by
  have nC:H5 HH.objs.size=none:=I6.free
  have I7:Inv X pins σ H5 s6:=fqQ (h':=s6.heap) I3 I6 ffp ⟨rfl,fun _ _ => rfl⟩
  obtain ⟨f0,f1,f2,f3,f4,f5⟩:=I3.fpOk (H':=H5) (b:=HH.objs.size) (Nat.le_refl _) nC
  obtain ⟨m,hn6,_⟩:=id I6.loc
  show wpAny _ X.A (assign (.Name y py) X.env (.ref _)) _ _ s6
  refine wpAny_assign_Name (iqa I7 hN hiN (.inl hy) (v:=.ref _) rfl (fun s8 I8 sbx => ?_) (.inr hy))
  obtain ⟨a,sb,ha⟩:=sbx
  have hne:HH.objs.size ≠ a:=by
   rcases ha with rfl | ha
   ·exact f1
   ·exact fun z => f4 y a ha z.symm
  refine ⟨m,hn6.sameBut sb hne,fun h' sb' => ?_⟩
  exact ⟨_,H5,I8.turned (t':=s8.toks) (it:=HH.objs.size) (fun b o hb e => sb'.extBut b o hb e) f0 f1 f3 f4 f5,qn⟩
end
section
variable {p:Addr}{fv:St}{te:TE}{Q:VK}{H1:Hp}
theorem qqF {z:Str} (hz:z.length ≤ sizeLine) (hp:H1 p=none) (f:Nat->V)
  (he:∀ c,c ∈ z.cps.toList->∀ (H':Hp) (R:VK),(∀ H'',Same H' H''->R (f c) H'')->te (some (.str ⟨#[c]⟩) :: fv) H' R)
  (hQ:∀ H',Same H1 H'->H' p=some (.lst (z.cps.toList.map f))->Q (.ref p) H'):CompI (Its z) p fv tYes te Q H1:=by
 have hl:z.cps.toList.length=z.length:=by simp [Str.length]
 refine ⟨fun i m ys H2 => m=z.length - i∧i ≤ z.length∧ys=(z.cps.toList.take i).map f∧H2 p=some (.lst ys)∧Same H1 H2,⟨z.length,by simp,Nat.zero_le _,by simp,aqk,fun b o e => by rw [aqq (aql e hp)]; exact e⟩,?_⟩
 rintro i m ys H2 ⟨rfl,hi,rfl,hp2,sm⟩
 refine ⟨hp2,?_⟩
 by_cases hlt:i < z.length
 ·refine .inr ⟨hlt,?_,fun x H3 y => ?_⟩
  ·rw [List.length_map,List.length_take]; omega
  ·obtain ⟨rfl,c,hc,rfl⟩:=y
   unfold tYes
   dsimp only
   rw [if_pos rfl]
   refine he c (List.mem_of_getElem? hc) _ _ fun H5 s5 => ⟨s5 _ _ hp2,z.length - (i + 1),by omega,rfl,hlt,?_,aqk,fun b o e => ?_⟩
   ·rw [List.take_add_one,hc,List.map_append]; rfl
   ·rw [aqq (aql e hp)]; exact s5 _ _ (sm _ _ e)
 ·have e:i=z.length:=by omega
  subst e
  refine .inl ⟨Nat.le_refl _,hQ H2 sm ?_⟩
  rw [hp2,<- hl,List.take_length]
end
section
variable {σ:St}{H:Hp}{Q:VK}{K:PySem.W.Frag}{tl te:TE}{tt:TT}{fr:List Nat}
theorem sql:frV σ []=[]:=rfl
theorem pqR {i:Nat}{r:List Nat}:frV σ (i :: r)=(σ[i]?).getD none :: frV σ r:=rfl
theorem uqG {z:Str}{p:Addr}:rJoin K (.str z) [.ref p] H Q ↔ ∃ ys:List Str,SqL K H p (ys.map V.str)∧(ys.map (·.length)).sum + ys.length * z.length ≤ 16777216∧Q (.str (Txt.join z ys)) H:=by
 constructor
 ·rintro ⟨z',p',ys,h1,h2,h3⟩
  cases h1; cases h2
  exact ⟨ys,h3⟩
 ·rintro ⟨ys,h⟩
  exact ⟨z,p,ys,rfl,rfl,h⟩
theorem pq2:(tComp (iStr tl) fr tt te σ H Q)=(tl σ H fun x H1 => ∃ z,x=.str z∧∀ p,H1 p=none->CompI (Its z) p (frV σ fr) tt te Q H1):=rfl
theorem pqV:(tComp (iList K tl) fr tt te σ H Q)=(tl σ H fun x H1 => ∃ a,x=.ref a∧(∃ xs,SqL K H1 a xs)∧∀ p,H1 p=none->CompI (Itl K a) p (frV σ fr) tt te Q H1):=rfl
end
section
variable {X:Cx}{K:PySem.W.Frag}
theorem pqu (h:X.K=K):OpR X (binaryOp .Add) (rAddU K):=by subst h; exact oqS
theorem aqf (h:X.K=K):IxR X (rIx K):=by subst h; exact uqD
theorem sq2 (h:X.K=K):SlR X (rSl K):=by subst h; exact tqL
theorem aqt (h:X.K=K):CallR X (.builtin "len") (rLenU K):=by subst h; exact oqa
theorem dq2 {tg l:Expr}{tl:TE} (h:X.K=K) (hl:PE X l tl):PI X tg l (iList K tl):=by subst h; exact sqc hl
variable {o e:Expr}{es:List Expr}{to:TE}{t:TA}{name:Str}{apos cpos:Pos}{T id:String}{r:V->List V->Hp->VK->Prop}
theorem dqW (h:X.K=K) (pa:PlainAttrs T) (slot:Slot T name id) (hty:typeOf (.builtin id)=pure (.type "method_descriptor")) (hm:MtR X id r) (ho:PE X o to) (ha:PA X (e :: es) t)
  (hbase:attributeBase o name X.env (eval o X.env)=eval o X.env:=by rfl)
  (hfew:((backTo cpos (starEach (e :: es) X.env)).all (fun x => !x.1) && (backToKw cpos (keywordEach [] X.env)).all (fun x => x.1.isSome)
   && decide ((e :: es).length + ([]:List Keyword).length + (if ([]:List Keyword).isEmpty then 0 else 1) < 30))=true:=by rfl)
  (hline:(apos.endLine == cpos.line)=true:=by rfl) (hs:starEach (e :: es) X.env=(false,eval e X.env) :: starEach es X.env:=by rfl) (hplain:(backTo cpos (starEach es X.env)).any (·.1)=false:=by rfl) :
  PE X (.Call (.Attribute o name apos) (e :: es) [] cpos) (tBM K T r to t):=by
 subst h; exact uq0 pa slot hty hm ho ha hbase hfew hline hs hplain
end
structure FunD (K:PySem.W.Frag) (x qual:Str) (st:Stmt) (f:Addr) (fd:FuncData) (T:Addr):Prop where
 ex:∃ (oc:Value) (od:Option Addr) (kV doc pm:Value) (an:Option Addr) (cdv ct:Value) (osl:Array (Option Value)),
  fd=PySem.W.fnOf x qual (defArgs st) (defBody st) (defScope st) (.ref T) kV doc pm an cdv ct∧K.lookup f=some ⟨oc,od,.func fd,osl⟩∧PySem.W.codeIn K cdv qual=true
 kp:PySem.W.keepIn K (.ref f)=true
section
variable {P:Program}{w:World}{K:PySem.W.Frag}{mg:Str->Option Value}{base:Heap}
end
section
variable {σ:St}{H:Hp}{Q:VK}
theorem uqS {r:V->Hp->VK->Prop}{ta:TE}:(tUn r ta σ H Q)=(ta σ H fun x H1 => r x H1 Q):=rfl
theorem rd_U {g:Int->V}{i:Int}:rU g (.int i) H Q ↔ Q (g i) H:=⟨fun ⟨_,h1,h2⟩ => by cases h1; exact h2,fun h => ⟨i,rfl,h⟩⟩
theorem tqP {l:Addr}{y:V}:rAppend (.ref l) [y] H Q ↔ ∃ xs,H l=some (.lst xs)∧xs.length < sizeLine∧Q .non (upd H l (.lst (xs ++ [y]))):=by
 constructor
 ·rintro ⟨l',xs,y',h1,h2,h3⟩
  cases h1; cases h2
  exact ⟨xs,h3⟩
 ·rintro ⟨xs,h⟩
  exact ⟨l,xs,y,rfl,rfl,h⟩
theorem sqs {K:PySem.W.Frag}{p:Addr}:tyV K "list" (.ref p) H ↔ ∃ xs,SqL K H p xs:=by
 constructor
 ·rintro (⟨_,h⟩ | ⟨h,_⟩ | ⟨h,_⟩ | ⟨h,_⟩)
  ·exact h
  ·exact absurd h (by decide)
  ·exact absurd h (by decide)
  ·exact absurd h (by decide)
 ·intro h; exact .inl ⟨rfl,h⟩
end
mutual
inductive Is (H:Hp):PyData->V->Prop
 | non:Is H .none .non
 | bl (b:Bool):Is H (.bool b) (.bl b)
 | int (i:Int):Is H (.int i) (.int i)
 | str (x:Str):Is H (.str x) (.str x)
 | lst {p:Addr}{xs:List V}{ds:List PyData}:H p=some (.lst xs)->IsAll H ds xs->Is H (.list ds) (.ref p)
 | tup {p:Addr}{xs:List V}{ds:List PyData}:H p=some (.tup xs)->IsAll H ds xs->Is H (.tuple ds) (.ref p)
inductive IsAll (H:Hp):List PyData->List V->Prop
 | nil:IsAll H [] []
 | cons {d:PyData}{x:V}{ds:List PyData}{xs:List V}:Is H d x->IsAll H ds xs->IsAll H (d :: ds) (x :: xs)
end
mutual
theorem Is.mono {H H':Hp} (sm:Same H H'):∀ {d:PyData}{x:V},Is H d x->Is H' d x
 | _,_,.non => .non
 | _,_,.bl b => .bl b
 | _,_,.int i => .int i
 | _,_,.str x => .str x
 | _,_,.lst h r => .lst (sm _ _ h) (IsAll.mono sm r)
 | _,_,.tup h r => .tup (sm _ _ h) (IsAll.mono sm r)
theorem IsAll.mono {H H':Hp} (sm:Same H H'):∀ {ds:List PyData}{xs:List V},IsAll H ds xs->IsAll H' ds xs
 | _,_,.nil => .nil
 | _,_,.cons h r => .cons (Is.mono sm h) (IsAll.mono sm r)
end
theorem IsAll.length {H:Hp}:∀ {ds:List PyData}{xs:List V},IsAll H ds xs->ds.length=xs.length
 | _,_,.nil => rfl
 | _,_,.cons _ r => by rw [List.length_cons,List.length_cons,IsAll.length r]
theorem IsAll.at {H:Hp}:∀ {ds:List PyData}{xs:List V},IsAll H ds xs->∀ (i:Nat) (x:V),xs[i]?=some x->∃ d,ds[i]?=some d∧Is H d x
 | _,_,.nil,i,x,h => by simp at h
 | _,_,.cons q r,0,x,h => by simp at h; subst h; exact ⟨_,rfl,q⟩
 | _,_,.cons q r,i + 1,x,h => by
  obtain ⟨d,h1,h2⟩:=r.at i x (by simpa using h)
  exact ⟨d,by simpa using h1,h2⟩
section
variable {X:Cx}{pins:List (Addr × Obj)}{σ:St}{H:Hp}{s:Shared}
mutual
theorem Is.reads (I:Inv X pins σ H s):∀ {d:PyData}{x:V}{v:Value},Is H d x->RelV x v->∃ as,Reads s.heap v d as
 | _,_,_,.non,r => by cases r; exact ⟨_,.none⟩
 | _,_,_,.bl b,r => by cases r; exact ⟨_,.bool b⟩
 | _,_,_,.int i,r => by obtain ⟨t,rfl⟩:=r; exact ⟨_,.int i t⟩
 | _,_,_,.str x,r => by obtain ⟨t,rfl⟩:=r; exact ⟨_,.str x t⟩
 | _,_,_,.lst h q,r => by
  cases r
  obtain ⟨its,vs,⟨o,n,e,c,_,dt⟩,_⟩:=I.list (SqL.of h)
  obtain ⟨as,ra⟩:=IsAll.reads I q vs
  exact ⟨_,.list e c dt (by simpa using ra)⟩
 | _,_,_,.tup h q,r => by
  cases r
  obtain ⟨its,vs,⟨o,e,c,n,dt⟩,_⟩:=I.tuple (SqT.of h)
  obtain ⟨as,ra⟩:=IsAll.reads I q vs
  exact ⟨_,.tuple e c dt (by simpa using ra)⟩
theorem IsAll.reads (I:Inv X pins σ H s):∀ {ds:List PyData}{xs:List V}{vs:List Value},IsAll H ds xs->Vals xs vs->∃ as,ReadsAll s.heap vs ds as
 | _,_,_,.nil,r => by cases r; exact ⟨_,.nil⟩
 | _,_,_,.cons q t,r => by
  cases r with
  | cons r1 r2 =>
   obtain ⟨as,h1⟩:=Is.reads I q r1
   obtain ⟨bs,h2⟩:=IsAll.reads I t r2
   exact ⟨_,.cons h1 h2⟩
end
def rEqD:R2:=fun x y H Q => ∃ d e,Is H d x∧Is H e y∧SeqAt.shaped d=true∧SeqAt.shaped e=true∧Q (.bl (PyData.eqv d e)) H
def rNeD:R2:=fun x y H Q => ∃ d e,Is H d x∧Is H e y∧SeqAt.shaped d=true∧SeqAt.shaped e=true∧Q (.bl (!PyData.eqv d e)) H
theorem iqX (hu:X.A.units + 64 < cLine):OpR X (compareOp .Eq) rEqD:=by
 intro pins s σ H x y v u Q I rx ry h
 obtain ⟨d,e,hx,hy,sx,sy,q⟩:=h
 obtain ⟨as,ra⟩:=hx.reads I rx
 obtain ⟨bs,rb⟩:=hy.reads I ry
 exact eq_dataH ra rb sx sy hu ⟨.bl _,H,I,rfl,q⟩
theorem gqk (hu:X.A.units + 64 < cLine):OpR X (compareOp .NotEq) rNeD:=by
 intro pins s σ H x y v u Q I rx ry h
 obtain ⟨d,e,hx,hy,sx,sy,q⟩:=h
 obtain ⟨as,ra⟩:=hx.reads I rx
 obtain ⟨bs,rb⟩:=hy.reads I ry
 exact ne_dataH ra rb sx sy hu ⟨.bl _,H,I,rfl,q⟩
end
mutual
inductive IsT (H:Hp):PyData->V->Prop
 | non:IsT H .none .non
 | bl (b:Bool):IsT H (.bool b) (.bl b)
 | int (i:Int):IsT H (.int i) (.int i)
 | str (x:Str):IsT H (.str x) (.str x)
 | tup {p:Addr}{xs:List V}{ds:List PyData}:H p=some (.tup xs)->IsTAll H ds xs->IsT H (.tuple ds) (.ref p)
inductive IsTAll (H:Hp):List PyData->List V->Prop
 | nil:IsTAll H [] []
 | cons {d:PyData}{x:V}{ds:List PyData}{xs:List V}:IsT H d x->IsTAll H ds xs->IsTAll H (d :: ds) (x :: xs)
end
def SameT (H H':Hp):Prop:=∀ b xs,H b=some (.tup xs)->H' b=some (.tup xs)
theorem Same.toT {H H':Hp} (h:Same H H'):SameT H H':=fun b xs e => h b _ e
mutual
theorem IsT.mono {H H':Hp} (sm:SameT H H'):∀ {d:PyData}{x:V},IsT H d x->IsT H' d x
 | _,_,.non => .non
 | _,_,.bl b => .bl b
 | _,_,.int i => .int i
 | _,_,.str x => .str x
 | _,_,.tup h r => .tup (sm _ _ h) (IsTAll.mono sm r)
theorem IsTAll.mono {H H':Hp} (sm:SameT H H'):∀ {ds:List PyData}{xs:List V},IsTAll H ds xs->IsTAll H' ds xs
 | _,_,.nil => .nil
 | _,_,.cons h r => .cons (IsT.mono sm h) (IsTAll.mono sm r)
end
mutual
theorem IsT.is {H:Hp}:∀ {d:PyData}{x:V},IsT H d x->Is H d x
 | _,_,.non => .non
 | _,_,.bl b => .bl b
 | _,_,.int i => .int i
 | _,_,.str x => .str x
 | _,_,.tup h r => .tup h (IsTAll.is r)
theorem IsTAll.is {H:Hp}:∀ {ds:List PyData}{xs:List V},IsTAll H ds xs->IsAll H ds xs
 | _,_,.nil => .nil
 | _,_,.cons h r => .cons (IsT.is h) (IsTAll.is r)
end
section
variable {p:Addr}{fv:St}{te:TE}{Q:VK}{H1:Hp}
inductive All2 (R:V->V->Hp->Prop) (H:Hp):List V->List V->Prop
 | nil:All2 R H [] []
 | cons {x y:V}{xs ys:List V}:R x y H->All2 R H xs ys->All2 R H (x :: xs) (y :: ys)
end
section
variable {X:Cx}
def rAllB (K:PySem.W.Frag):List V->Hp->VK->Prop:=fun vs H Q => ∃ (p:Addr) (bs:List Bool),vs=[.ref p]∧SqL K H p (bs.map V.bl)∧Q (.bl (bs.all id)) H
def rAnyB (K:PySem.W.Frag):List V->Hp->VK->Prop:=fun vs H Q => ∃ (p:Addr) (bs:List Bool),vs=[.ref p]∧SqL K H p (bs.map V.bl)∧Q (.bl (bs.any id)) H
theorem pq9 {bs:List Bool}:∀ {us:List Value},Vals (bs.map V.bl) us->∀ (i:Nat) (v:Value),us[i]?=some v->∃ b,bs[i]?=some b∧v=.bool b:=by
 induction bs with
 | nil => intro us r i v h; rw [List.map_nil] at r; cases r; simp at h
 | cons b bs ih =>
  intro us r i v h
  rw [List.map_cons] at r
  cases r with
  | cons r1 r2 =>
   cases i with
   | zero => simp at h; subst h; exact ⟨b,rfl,r1⟩
   | succ i =>
    obtain ⟨c,h1,h2⟩:=ih r2 i v (by simpa using h)
    exact ⟨c,by simpa using h1,h2⟩
theorem nq9 (hc:X.calm=true):CallR X (.builtin "all") (rAllB X.K):=by
 intro pins s σ H xs us Q I r h
 obtain ⟨p,bs,rfl,hq,q⟩:=h
 obtain ⟨u,rfl,ru⟩:=vals1 r
 cases ru
 obtain ⟨its,vs,pl,hl⟩:=I.list hq
 have hI:=pl.isList
 have hlt:p < s.heap.objs.size:=by obtain ⟨_,e,_⟩:=hI; exact Heap.lt_size e
 refine call_all_walk (wpAny_pyIter_list hI ?_)
 refine ⟨s.heap.objs.size,[s.heap.objs.size,p],[s.heap.objs.size],its.toArray.size,_,_,fun i => (bs[i]?).getD true,rfl,Walks.list (A:=X.A.in1) (I.ok.hd hc) _ p (Nat.ne_of_lt hlt) its.toArray,
  ⟨⟨_,Heap.get?_push_size _ rfl,rfl,rfl⟩,hI.push _⟩,fun i v s' Q' E' hP hQ => ?_,fun h' tk hk => ?_⟩
 ·obtain ⟨b,e,rfl⟩:=pq9 vs i v (by simpa using hP)
  simp only [e,Option.getD_some] at hQ
  exact wpAny_truthy_bool hQ
 ·have hbl:=vs.length
  rw [List.length_map] at hbl
  have e:((List.range its.toArray.size).all fun i => (bs[i]?).getD true)=bs.all id:=by
   rw [List.size_toArray,<- hbl]; exact PyProof.Rows.LSm.range_all bs
  exact ⟨.bl _,H,I.kept (t':=tk) (PyProof.Rows.LSm.kept_iter hk),rfl,by rw [e]; exact q⟩
variable {K:PySem.W.Frag}
theorem hqO (h:X.K=K) (hc:X.calm=true):CallR X (.builtin "all") (rAllB K):=by subst h; exact nq9 hc
def rListU (K:PySem.W.Frag):List V->Hp->VK->Prop:=fun xs H Q => ∃ p ys,xs=[.ref p]∧(SqL K H p ys ∨ SqT K H p ys)∧∀ l,H l=none->Q (.ref l) (upd H l (.lst ys))
def rTupleU (K:PySem.W.Frag):List V->Hp->VK->Prop:=fun xs H Q => ∃ p ys,xs=[.ref p]∧((SqL K H p ys∧∀ l,H l=none->Q (.ref l) (upd H l (.tup ys))) ∨ (SqT K H p ys∧Q (.ref p) H))
theorem hqI {tg l:Expr}{tl:TE} (h:X.K=K) (hl:PE X l tl):PI X tg l (iTup K tl):=by subst h; exact tqU hl
end
section
variable {H:Hp}{Q:VK}{K:PySem.W.Frag}
theorem tqg {x:V}{T:String}:(rIsiU [x,.ty T] H Q)=(∃ k,kindV x H=some k∧T ∈ ["bool","int","str","list","tuple"]∧Q (.bl (subT k T)) H):=rfl
theorem pqF:kindV .non H=some "NoneType" := rfl
theorem sqo {b:Bool}:kindV (.bl b) H=some "bool" := rfl
theorem qqU {i:Int}:kindV (.int i) H=some "int" := rfl
theorem qqw {x:Str}:kindV (.str x) H=some "str" := rfl
theorem hqx {p:Addr}{xs:List V} (h:H p=some (.lst xs)):kindV (.ref p) H=some "list" := by simp only [kindV,h]
theorem hqs {p:Addr}{xs:List V} (h:H p=some (.tup xs)):kindV (.ref p) H=some "tuple" := by simp only [kindV,h]
theorem oqX:("bool" ∈ ["bool","int","str","list","tuple"])=True:=by simp
theorem qqm:("int" ∈ ["bool","int","str","list","tuple"])=True:=by simp
theorem qqj:("str" ∈ ["bool","int","str","list","tuple"])=True:=by simp
theorem nqR:("list" ∈ ["bool","int","str","list","tuple"])=True:=by simp
theorem mqW:("tuple" ∈ ["bool","int","str","list","tuple"])=True:=by simp
theorem gqS:subT "NoneType" "bool" = false:=by decide
theorem hqj:subT "NoneType" "int" = false:=by decide
theorem hqm:subT "NoneType" "str" = false:=by decide
theorem gqU:subT "NoneType" "list" = false:=by decide
theorem fq4:subT "NoneType" "tuple" = false:=by decide
theorem kqh:subT "bool" "bool" = true:=by decide
theorem kqY:subT "bool" "int" = true:=by decide
theorem kqK:subT "bool" "str" = false:=by decide
theorem jq5:subT "bool" "list" = false:=by decide
theorem iqD:subT "bool" "tuple" = false:=by decide
theorem kqP:subT "int" "bool" = false:=by decide
theorem lq5:subT "int" "int" = true:=by decide
theorem lqO:subT "int" "str" = false:=by decide
theorem lqp:subT "int" "list" = false:=by decide
theorem jq2:subT "int" "tuple" = false:=by decide
theorem lqo:subT "str" "bool" = false:=by decide
theorem lqG:subT "str" "int" = false:=by decide
theorem lq1:subT "str" "str" = true:=by decide
theorem kqp:subT "str" "list" = false:=by decide
theorem jqP:subT "str" "tuple" = false:=by decide
theorem kql:subT "list" "bool" = false:=by decide
theorem kqt:subT "list" "int" = false:=by decide
theorem kq0:subT "list" "str" = false:=by decide
theorem sub_list_list:subT "list" "list" = true:=by decide
theorem iqz:subT "list" "tuple" = false:=by decide
theorem iqI:subT "tuple" "bool" = false:=by decide
theorem jqM:subT "tuple" "int" = false:=by decide
theorem jqq:subT "tuple" "str" = false:=by decide
theorem iqF:subT "tuple" "list" = false:=by decide
theorem sub_tuple_tuple:subT "tuple" "tuple" = true:=by decide
theorem rq8 {n:Nat}{t:TGs}{v:V}{σ:St}{R:St->Hp->Prop}:(gTup K n t v σ H R)=(∃ a xs,v=.ref a∧SqT K H a xs∧xs.length=n∧t xs σ H R):=rfl
theorem pq6 {t:TG}{u:TGs}{vs:List V}{σ:St}{R:St->Hp->Prop}:(gCons t u vs σ H R)=(∃ v r,vs=v :: r∧t v σ H fun σ' H' => u r σ' H' R):=rfl
theorem rqx {vs:List V}{σ:St}{R:St->Hp->Prop}:(gNil vs σ H R)=(vs=[]∧R σ H):=rfl
theorem sqv {to ti:TE}{t:TSet}{v:V}{σ:St}{R:St->Hp->Prop}:(gSub to ti t v σ H R)=(to σ H fun o H1 => ti σ H1 fun i H2 => t o i v H2 fun H3 => R σ H3):=rfl
theorem sqw {p:Addr}{k:Int}{v:V}{R:Hp->Prop}:rSetL (.ref p) (.int k) v H R ↔ ∃ xs j,H p=some (.lst xs)∧ixN xs.length k=some j∧R (upd H p (.lst (xs.set j v))):=by
 constructor
 ·rintro ⟨p',xs,k',j,h1,h2,h3⟩; cases h1; cases h2; exact ⟨xs,j,h3⟩
 ·rintro ⟨xs,j,h⟩; exact ⟨p,xs,k,j,rfl,rfl,h⟩
end
section
variable {X:Cx}{K:PySem.W.Frag}
theorem eqP {es:List Expr}{k:Nat}{t:TGs}{n:Nat}{pos:Pos} (h:X.K=K) (hc:X.calm=true) (hg:PGs X es t)
  (hn:(assignEach es X.env).length=n:=by rfl) (hst:(assignEach es X.env).findIdx? (·.1)=none:=by rfl):PG X (.Tuple es k pos) (gTup K n t):=by
 subst h; exact rqe hc hg hn hst
end
def SameBut (p:Addr) (H H':Hp):Prop:=∀ b o,b ≠ p->H b=some o->H' b=some o
theorem SameBut.trans {p:Addr}{H H' H'':Hp} (h:SameBut p H H') (h':SameBut p H' H''):SameBut p H H'':=fun b o n e => h' b o n (h b o n e)
theorem Same.but {p:Addr}{H H':Hp} (h:Same H H'):SameBut p H H':=fun b o _ e => h b o e
theorem lqt {p:Addr}{H:Hp}{o:HO}:SameBut p H (upd H p o):=fun b u n e => by rw [aqq n]; exact e
theorem SameBut.same {p:Addr}{H H':Hp} (h:SameBut p H H') (hp:H p=none):Same H H':=fun b o e => h b o (aql e hp) e
section
variable {p:Addr}{fv:St}{te:TE}{Q:VK}{H1:Hp}{K:PySem.W.Frag}
theorem Same.tup {H H':Hp}{a:Addr}{xs:List V} (e:Same H H') (h:SqT K H a xs):SqT K H' a xs:=by
 rcases h with (h | ⟨o,h⟩) | h
 ·exact .inl (.inl (e _ _ h))
 ·exact .inl (.inr ⟨o,e _ _ h⟩)
 ·exact .inr h
theorem nqd {a:Addr}{xs zs:List V} (hxs:SqL K H1 a xs) (hlen:xs.length ≤ sizeLine) (hp:H1 p=none) (hz:zs.length=xs.length)
  (he:∀ (i:Nat) (x z:V),xs[i]?=some x->zs[i]?=some z->∀ (H':Hp) (T:VK),Same H1 H'->(∀ H'',Same H' H''->T z H'')->te (some x :: fv) H' T)
  (hQ:∀ H',Same H1 H'->H' p=some (.lst zs)->Q (.ref p) H'):CompI (Itl K a) p fv tYes te Q H1:=by
 refine ⟨fun i m ys H2 => m=xs.length - i∧i ≤ xs.length∧ys=zs.take i∧H2 p=some (.lst ys)∧Same H1 H2,⟨xs.length,by simp,Nat.zero_le _,by simp,aqk,fun b o e => by rw [aqq (aql e hp)]; exact e⟩,?_⟩
 rintro i m ys H2 ⟨rfl,hi,rfl,hp2,sm⟩
 refine ⟨hp2,?_⟩
 have q:=sm.seq hxs
 by_cases hlt:i < xs.length
 ·refine .inr ⟨⟨xs,xs[i],q,by simp [hlt]⟩,?_,fun x H3 y => ?_⟩
  ·rw [List.length_take]; omega
  ·obtain ⟨rfl,y⟩:=y
   have hc:=y xs q
   have hzi:zs[i]?=some zs[i]:=List.getElem?_eq_getElem (by omega)
   unfold tYes
   dsimp only
   rw [if_pos rfl]
   refine he i x _ hc hzi _ _ sm fun H5 s5 => ⟨s5 _ _ hp2,xs.length - (i + 1),by omega,rfl,hlt,?_,aqk,fun b o e => ?_⟩
   ·rw [List.take_add_one,hzi]; rfl
   ·rw [aqq (aql e hp)]; exact s5 _ _ (sm _ _ e)
 ·have e:i=xs.length:=by omega
  subst e
  refine .inl ⟨⟨xs,q,Nat.le_refl _⟩,hQ H2 sm ?_⟩
  rw [hp2,<- hz,List.take_length]
variable {σ:St}{H:Hp}{tl:TE}{tt:TT}{fr:List Nat}{g:TG}{tb:TS}{D:Ends}
theorem qqz:(tComp (iTup K tl) fr tt te σ H Q)=(tl σ H fun x H1 => ∃ a,x=.ref a∧(∃ xs,SqT K H1 a xs)∧∀ p,H1 p=none->CompI (Itt K a) p (frV σ fr) tt te Q H1):=rfl
theorem sqX:(tFor (iTup K te) g tb D σ H)=(te σ H fun x H1 => ∃ a,x=.ref a∧(∃ xs,SqT K H1 a xs)∧LoopI (Itt K a) g tb D σ H1):=rfl
theorem kqc {a:Addr}{xs:List V} (Pv:Nat->St->Hp->Prop) (h0:Pv 0 σ H) (hl:∀ i σ H,i ≤ xs.length->Pv i σ H->SqT K H a xs)
  (hs:∀ i x σ H,xs[i]?=some x->Pv i σ H->g x σ H fun σ2 H2 => tb { D with nx:=Pv (i + 1),ct:=Pv (i + 1),bk:=D.nx } σ2 H2) (hd:∀ σ H,Pv xs.length σ H->D.nx σ H):LoopI (Itt K a) g tb D σ H:=rq2 Pv h0 hl hs hd
theorem lqP {a:Addr}:rAllB K [.ref a] H Q ↔ ∃ bs:List Bool,SqL K H a (bs.map V.bl)∧Q (.bl (bs.all id)) H:=by
 constructor
 ·rintro ⟨p,bs,h1,h2⟩; cases h1; exact ⟨bs,h2⟩
 ·rintro ⟨bs,h⟩; exact ⟨a,bs,rfl,h⟩
theorem sqj {a:Addr}:rAnyB K [.ref a] H Q ↔ ∃ bs:List Bool,SqL K H a (bs.map V.bl)∧Q (.bl (bs.any id)) H:=by
 constructor
 ·rintro ⟨p,bs,h1,h2⟩; cases h1; exact ⟨bs,h2⟩
 ·rintro ⟨bs,h⟩; exact ⟨a,bs,rfl,h⟩
theorem tqC {a:Addr}:rListU K [.ref a] H Q ↔ ∃ ys,(SqL K H a ys ∨ SqT K H a ys)∧∀ l,H l=none->Q (.ref l) (upd H l (.lst ys)):=by
 constructor
 ·rintro ⟨p,bs,h1,h2⟩; cases h1; exact ⟨bs,h2⟩
 ·rintro ⟨bs,h⟩; exact ⟨a,bs,rfl,h⟩
theorem tqN {a:Addr}:rTupleU K [.ref a] H Q ↔ ∃ ys,(SqL K H a ys∧∀ l,H l=none->Q (.ref l) (upd H l (.tup ys))) ∨ (SqT K H a ys∧Q (.ref a) H):=by
 constructor
 ·rintro ⟨p,bs,h1,h2⟩; cases h1; exact ⟨bs,h2⟩
 ·rintro ⟨bs,h⟩; exact ⟨a,bs,rfl,h⟩
theorem sqW {a:Addr}{lo hi:Option Int}:rSlT K (.ref a) lo hi H Q ↔ ∃ xs,SqT K H a xs∧¬ (HT.sIx xs.length 0 lo=0∧HT.sIx xs.length xs.length hi=xs.length)∧∀ p,H p=none->Q (.ref p) (upd H p (.tup (cutV xs lo hi))):=by
 constructor
 ·rintro ⟨p,bs,h1,h2⟩; cases h1; exact ⟨bs,h2⟩
 ·rintro ⟨bs,h⟩; exact ⟨a,bs,rfl,h⟩
end
def tCut (t u:TS):TS:=fun D σ H => ∃ P:St->Hp->Prop,t { D with nx:=P } σ H∧∀ σ' H',P σ' H'->u D σ' H'
section
variable {X:Cx}{st:Stmt}{rest:List Stmt}{t u:TS}
theorem aqH (h1:PS X st t) (h2:PSs X rest u):PSs X (st :: rest) (tCut t u):=by
 intro pins s σ H D I h
 obtain ⟨P,h,hu⟩:=h
 refine wpAny_execs_cons (thn (h1 pins s σ H { D with nx:=P } I h) fun f s1 q => ?_)
 cases f with
 | next =>
  obtain ⟨σ',H',I',q⟩:=q
  exact h2 pins s1 σ' H' D I' (hu _ _ q)
 | ret v => exact q
 | brk => exact q
 | cont => exact q
def Later (u:TS) (D:Ends) (σ:St) (H:Hp):Prop:=u D σ H
theorem pqH {D:Ends}{x:Option V}{σ:St}{H:Hp}:(Later u D (x :: σ) H)=(u D (x :: σ) H):=rfl
theorem tqS {D:Ends}{σ:St}{H:Hp}:(tCut t u D σ H)=(∃ P:St->Hp->Prop,t { D with nx:=P } σ H∧∀ σ' H',P σ' H'->Later u D σ' H'):=rfl
end
theorem aqK {H:Hp}{p:Addr}{o:HO} (hp:H p=none):Same H (upd H p o):=fun b u e => by rw [aqq (aql e hp)]; exact e
def tTupS (t:TA):TE:=fun σ H Q => t σ H fun xs H1 => xs.length ≤ sizeLine∧∀ p H',H1 p=none->Same H1 H'->H' p=some (.tup xs)->Q (.ref p) H'
def tLstS (t:TA):TE:=fun σ H Q => t σ H fun xs H1 => xs.length ≤ sizeLine∧∀ p H',H1 p=none->Same H1 H'->H' p=some (.lst xs)->Q (.ref p) H'
section
variable {X:Cx}{es:List Expr}{t:TA}{pos:Pos}{K:PySem.W.Frag}
theorem aqR {x1} (h:PA X es t):PE X (.Tuple es x1 pos) (tTupS t):=by
 intro pins s σ H Q I hq
 refine wpAny_Tuple_spliced (thn (h pos pins s σ H _ I hq) fun us s1 ⟨xs,H1,I1,r,z,q⟩ => ⟨by rw [<- r.length]; exact z,?_⟩)
 have hf:H1 s1.heap.objs.size=none:=I1.hok.fresh (Nat.le_refl _)
 refine ⟨.ref s1.heap.objs.size,upd H1 s1.heap.objs.size (.tup xs),I1.laid (t':=s1.toks) (fun b u e => Heap.get?_push_of_some _ e) (Nat.le_refl _) ?_,rfl,q _ _ hf (aqK hf) aqk⟩
 exact ⟨z,us,r,⟨_,Heap.get?_push_size _ rfl,rfl,_,rfl⟩⟩
theorem aqC (h:PA X es t):PE X (.List es pos) (tLstS t):=by
 intro pins s σ H Q I hq
 refine wpAny_List_spliced (thn (h pos pins s σ H _ I hq) fun us s1 ⟨xs,H1,I1,r,z,q⟩ => ⟨by rw [<- r.length]; exact z,?_⟩)
 have hf:H1 s1.heap.objs.size=none:=I1.hok.fresh (Nat.le_refl _)
 refine ⟨.ref s1.heap.objs.size,upd H1 s1.heap.objs.size (.lst xs),I1.laid (t':=s1.toks) (fun b u e => Heap.get?_push_of_some _ e) (Nat.le_refl _) ?_,rfl,q _ _ hf (aqK hf) aqk⟩
 exact ⟨z,us,0,r,Heap.get?_push_size _ rfl⟩
def rAddS (K:PySem.W.Frag):R2:=fun x y H Q => match x,y with
 | .int i,.int j => Q (.int (i + j)) H
 | .str i,.str j => i.length + j.length ≤ sizeLine∧Q (.str (i ++ j)) H
 | .ref a,.ref b => (∃ xs zs,H a=some (.lst xs)∧H b=some (.lst zs)∧xs.length + zs.length ≤ sizeLine∧∀ p H',H p=none->Same H H'->H' p=some (.lst (xs ++ zs))->Q (.ref p) H') ∨
   (∃ xs ys,H a=some (.tup xs)∧H b=some (.tup ys)∧xs.length + ys.length ≤ sizeLine∧∀ p H',Same H H'->H' p=some (.tup (xs ++ ys))->Q (.ref p) H')
 | _,_ => False
theorem aqx:OpR X (binaryOp .Add) (rAddS K):=by
 intro pins s σ H x y v u Q I rx ry h
 refine oqS pins s σ H x y v u Q I rx ry ?_
 cases x with
 | int i =>
  cases y with
  | int j => exact h
  | _ => exact h.elim
 | str i =>
  cases y with
  | str j => exact h
  | _ => exact h.elim
 | ref a =>
  cases y with
  | ref b =>
   rcases h with ⟨xs,zs,h1,h2,h3,h4⟩ | h
   ·exact .inl ⟨xs,zs,h1,h2,h3,fun p hp => h4 p _ hp (aqK hp) aqk⟩
   ·exact .inr h
  | _ => exact h.elim
 | _ => exact h.elim
def rListS (K:PySem.W.Frag):List V->Hp->VK->Prop:=fun xs H Q => ∃ p ys,xs=[.ref p]∧(SqL K H p ys ∨ SqT K H p ys)∧∀ l H',H l=none->Same H H'->H' l=some (.lst ys)->Q (.ref l) H'
def rTupleS (K:PySem.W.Frag):List V->Hp->VK->Prop:=fun xs H Q => ∃ p ys,xs=[.ref p]∧(SqL K H p ys ∨ H p=some (.tup ys))∧∀ l H',Same H H'->H' l=some (.tup ys)->Q (.ref l) H'
theorem jqj (h:X.K=K):CallR X (.type "list") (rListS K):=by
 subst h
 intro pins s σ H xs us Q I r h
 obtain ⟨p,ys,h1,h2,h3⟩:=h
 exact kqB pins s σ H xs us Q I r ⟨p,ys,h1,h2,fun l hl => h3 l _ hl (aqK hl) aqk⟩
theorem fqK (h:X.K=K):CallR X (.type "tuple") (rTupleS K):=by
 subst h
 intro pins s σ H xs us Q I r h
 obtain ⟨p,ys,h1,h2,h3⟩:=h
 rcases h2 with h2 | h2
 ·exact fqT pins s σ H xs us Q I r ⟨p,ys,h1,.inl ⟨h2,fun l hl => h3 l _ (aqK hl) aqk⟩⟩
 ·exact fqT pins s σ H xs us Q I r ⟨p,ys,h1,.inr ⟨SqT.of h2,h3 p H (Same.refl _) h2⟩⟩
def rSlS2 (K:PySem.W.Frag):V->Option Int->Option Int->Hp->VK->Prop:=fun x lo hi H Q => ∃ a xs,x=.ref a∧SqT K H a xs ∧
 ¬ (HT.sIx xs.length 0 lo=0∧HT.sIx xs.length xs.length hi=xs.length)∧∀ p H',H p=none->Same H H'->H' p=some (.tup (cutV xs lo hi))->Q (.ref p) H'
end
section
variable {σ:St}{H:Hp}{Q:VK}{K:PySem.W.Frag}{aa:TA}
theorem sqz:(tTupS aa σ H Q)=(aa σ H fun xs H1 => xs.length ≤ sizeLine∧∀ p H',H1 p=none->Same H1 H'->H' p=some (.tup xs)->Q (.ref p) H'):=rfl
theorem rqX:(tLstS aa σ H Q)=(aa σ H fun xs H1 => xs.length ≤ sizeLine∧∀ p H',H1 p=none->Same H1 H'->H' p=some (.lst xs)->Q (.ref p) H'):=rfl
theorem sq5 {i j:Int}:(rAddS K (.int i) (.int j) H Q)=(Q (.int (i + j)) H):=rfl
theorem cqq {i j:Str}:(rAddS K (.str i) (.str j) H Q)=(i.length + j.length ≤ sizeLine∧Q (.str (i ++ j)) H):=rfl
theorem sq0 {a:Addr}:rListS K [.ref a] H Q ↔ ∃ ys,(SqL K H a ys ∨ SqT K H a ys)∧∀ l H',H l=none->Same H H'->H' l=some (.lst ys)->Q (.ref l) H':=by
 constructor
 ·rintro ⟨p,bs,h1,h2⟩; cases h1; exact ⟨bs,h2⟩
 ·rintro ⟨bs,h⟩; exact ⟨a,bs,rfl,h⟩
theorem rqI {a:Addr}:rTupleS K [.ref a] H Q ↔ ∃ ys,(SqL K H a ys ∨ H a=some (.tup ys))∧∀ l H',Same H H'->H' l=some (.tup ys)->Q (.ref l) H':=by
 constructor
 ·rintro ⟨p,bs,h1,h2⟩; cases h1; exact ⟨bs,h2⟩
 ·rintro ⟨bs,h⟩; exact ⟨a,bs,rfl,h⟩
theorem sqR {a:Addr}{lo hi:Option Int}:rSlS2 K (.ref a) lo hi H Q ↔ ∃ xs,SqT K H a xs∧¬ (HT.sIx xs.length 0 lo=0∧HT.sIx xs.length xs.length hi=xs.length)∧∀ p H',H p=none->Same H H'->H' p=some (.tup (cutV xs lo hi))->Q (.ref p) H':=by
 constructor
 ·rintro ⟨p,bs,h1,h2⟩; cases h1; exact ⟨bs,h2⟩
 ·rintro ⟨bs,h⟩; exact ⟨a,bs,rfl,h⟩
end
def rSlLS (K:PySem.W.Frag):V->Option Int->Option Int->Hp->VK->Prop:=fun x lo hi H Q => ∃ a xs,x=.ref a∧SqL K H a xs∧∀ p H',H p=none->Same H H'->H' p=some (.lst (cutV xs lo hi))->Q (.ref p) H'
theorem fqW {X:Cx}{K:PySem.W.Frag} (h:X.K=K):SlR X (rSlLS K):=by
 subst h
 intro pins s σ H x v vl vu lo hi sl Q I rx hs pl pu h
 obtain ⟨a,xs,h1,h2,h3⟩:=h
 exact oqU pins s σ H x v vl vu lo hi sl Q I rx hs pl pu ⟨a,xs,h1,h2,fun p hp => h3 p _ hp (aqK hp) aqk⟩
theorem qql {K:PySem.W.Frag}{H:Hp}{Q:VK}{a:Addr}{lo hi:Option Int}:rSlLS K (.ref a) lo hi H Q ↔ ∃ xs,SqL K H a xs∧∀ p H',H p=none->Same H H'->H' p=some (.lst (cutV xs lo hi))->Q (.ref p) H':=by
 constructor
 ·rintro ⟨p,bs,h1,h2⟩; cases h1; exact ⟨bs,h2⟩
 ·rintro ⟨bs,h⟩; exact ⟨a,bs,rfl,h⟩
def rIsB (neg:Bool):R2:=fun x y H Q => match x,y with
 | .bl b,.bl c => Q (.bl (if neg then !decide (b=c) else decide (b=c))) H
 | _,_ => False
theorem uqZ {b c:Bool}{H:Hp}{Q:VK}:(rIsB false (.bl b) (.bl c) H Q)=(Q (.bl (decide (b=c))) H):=rfl
end L2
namespace Wm
open PySem L2
def isSg (c:Nat):Bool:=decide (32 ≤ c) && decide (c ≤ 126) && !decide (c=37)
def SG:List Nat:=(List.range 127).filter isSg
def hexd (n:Nat):Nat:=if n < 10 then 48 + n else 87 + n
def fig (a:Nat):Option Nat:=if 48 ≤ a∧a ≤ 57 then some (a - 48) else if 97 ≤ a∧a ≤ 102 then some (a - 87) else if 65 ≤ a∧a ≤ 70 then some (a - 55) else none
abbrev one (c:Nat):V:=.str ⟨#[c]⟩
theorem rqh {c:Nat}:c ∈ SG ↔ isSg c=true:=by
 unfold SG
 rw [List.mem_filter,List.mem_range]
 constructor
 ·exact fun h => h.2
 ·intro h
  refine ⟨?_,h⟩
  simp only [isSg,Bool.and_eq_true,decide_eq_true_eq] at h
  omega
theorem rqr {c:Nat} (h:isSg c=true):32 ≤ c∧c ≤ 126∧c ≠ 37:=by
 simp only [isSg,Bool.and_eq_true,decide_eq_true_eq,Bool.not_eq_true',decide_eq_false_iff_not] at h
 omega
theorem rqg:SG.length=94:=by decide +kernel
theorem kqI (l:List Nat) (a:Nat):∀ k,((List.range k).map fun j => a + j).filterMap (fun i => l[i]?)=(l.drop a).take k
 | 0 => by simp
 | k + 1 => by
  rw [List.range_succ,List.map_append,List.filterMap_append,kqI l a k,List.take_add_one,List.getElem?_drop]
  simp only [List.map_cons,List.map_nil]
  cases e:l[a + k]? with
  | none => simp [e]
  | some c => simp [e]
def clipI (n:Nat) (v:Int):Nat:=(max 0 (min (if v < 0 then v + n else v) n)).toNat
theorem qqf (a b:Nat):sliceRange (a:Int) (b:Int) 1=(List.range (b - a)).map fun j => a + j:=by
 unfold sliceRange
 have h1:(1:Int) > 0:=by decide
 simp only [h1,if_true,Int.one_mul,Int.ediv_one]
 have e:(if (a:Int) < (b:Int) then (b:Int) - (a:Int) + 1 - 1 else 0).toNat=b - a:=by split <;> omega
 rw [e]
 apply List.map_congr_left
 intro j _
 omega
theorem lqx (lo hi:Option Int) (n:Nat):Builtin.Str.strSliceIndices lo hi 1 n=(List.range ((hi.elim n (clipI n)) - (lo.elim 0 (clipI n)))).map fun j => (lo.elim 0 (clipI n)) + j:=by
 unfold Builtin.Str.strSliceIndices
 have h1:(1:Int) > 0:=by decide
 simp only [h1,if_true]
 rw [<- qqf]
 congr 1
 ·cases lo with
  | none => rfl
  | some v => simp only [Option.elim_some,clipI]; omega
 ·cases hi with
  | none => rfl
  | some v => simp only [Option.elim_some,clipI]; omega
theorem nqF (l:List Nat) (lo hi:Option Int):Txt.slice (⟨l.toArray⟩:Str) lo hi=⟨((l.drop (lo.elim 0 (clipI l.length))).take ((hi.elim l.length (clipI l.length)) - (lo.elim 0 (clipI l.length)))).toArray⟩:=by
 have hl:(⟨l.toArray⟩:Str).length=l.length:=by simp [Str.length]
 have hb:hi.elim l.length (clipI l.length) ≤ l.length:=by
  cases hi with
  | none => exact Nat.le_refl _
  | some v => simp only [Option.elim_some,clipI]; omega
 have hb':lo.elim 0 (clipI l.length) ≤ l.length:=by
  cases lo with
  | none => exact Nat.zero_le _
  | some v => simp only [Option.elim_some,clipI]; omega
 have ef:(fun i:Nat => (⟨l.toArray⟩:Str).cps[i]?)=fun i => l[i]?:=by funext i; simp
 unfold Txt.slice
 rw [hl,lqx,ef]
 split
 ·rename_i h
  simp only [List.length_map,List.length_range,beq_self_eq_true,Bool.true_and,beq_iff_eq] at h
  have e1:lo.elim 0 (clipI l.length)=0:=by omega
  have e2:hi.elim l.length (clipI l.length)=l.length:=by omega
  rw [e1,e2]
  simp
 ·rw [kqI l (lo.elim 0 (clipI l.length)) ((hi.elim l.length (clipI l.length)) - (lo.elim 0 (clipI l.length)))]
theorem qqc (n k:Nat):clipI n (k:Int)=min k n:=by unfold clipI; split <;> omega
theorem nqJ (l:List Nat) (i j:Nat):Txt.slice (⟨l.toArray⟩:Str) (some (i:Int)) (some (j:Int))=⟨((l.drop i).take (j - i)).toArray⟩:=by
 rw [nqF]
 simp only [Option.elim_some,qqc]
 by_cases h:i ≤ l.length
 ·rw [Nat.min_eq_left h]
  by_cases h2:j ≤ l.length
  ·rw [Nat.min_eq_left h2]
  ·rw [Nat.min_eq_right (by omega:l.length ≤ j),List.take_of_length_le (by simp),List.take_of_length_le (by simp; omega)]
 ·rw [Nat.min_eq_right (by omega:l.length ≤ i),List.drop_eq_nil_of_le (Nat.le_refl _),List.drop_eq_nil_of_le (by omega)]
  simp
theorem uqb:Str.ofString "" = ⟨([]:List Nat).toArray⟩:=by decide +kernel
theorem dqr (l m:List Nat):((⟨l.toArray⟩:Str) ++ (⟨m.toArray⟩:Str))=⟨(l ++ m).toArray⟩:=by
 show Str.mk (l.toArray ++ m.toArray)=_
 simp
theorem dqT {l m:List Nat}:((⟨l.toArray⟩:Str)=⟨m.toArray⟩) ↔ l=m:=by
 constructor
 ·intro h; injection h with h; injection h
 ·rintro rfl; rfl
theorem bqr (l:List Nat):(⟨l.toArray⟩:Str).length=l.length:=by simp [Str.length]
theorem qqN:Str.ofString "~" = ⟨[126].toArray⟩:=by decide +kernel
theorem jq1 (l:List Nat) (m k:Int) (h0:0 < k) (h:k ≤ l.length):∃ a,a ∈ l∧atI l (m % k)=some a:=by
 have h1:=Int.emod_nonneg m (show k ≠ 0 by omega)
 have h2:=Int.emod_lt_of_pos m h0
 have h3:(m % k).toNat < l.length:=by omega
 refine ⟨l[(m % k).toNat],List.getElem_mem _,?_⟩
 have:=aqi (xs:=l) (j:=(m % k).toNat) (v:=l[(m % k).toNat]) (by simp [h3])
 rw [Int.toNat_of_nonneg h1] at this
 exact this
def isPl (c:Nat):Bool:=decide (48 ≤ c∧c ≤ 57) || decide (65 ≤ c∧c ≤ 90) || decide (97 ≤ c∧c ≤ 122) || decide (c=45) || decide (c=46) || decide (c=95)
def wr1 (c:Nat):List Nat:=if isPl c then [c] else [126,hexd (c / 16),hexd (c % 16)]
def wr (l:List Nat):List Nat:=l.flatMap wr1
def sgO (a b:Nat):Option Nat:=match fig a,fig b with
 | some h,some l => if isSg (h * 16 + l) then some (h * 16 + l) else none
 | _,_ => none
theorem rqL {ns:List Int}{k:Nat} (h:k < ns.length):atI (ns.map V.int) (k:Int)=some (.int (ns.getD k 0)):=by
 refine aqi ?_
 rw [List.getElem?_map,List.getElem?_eq_getElem h,List.getD_eq_getElem?_getD,List.getElem?_eq_getElem h]
 rfl
theorem aqu {n:Nat} (h:n ≤ 100000):n ≤ sizeLine:=Nat.le_trans h (by decide)
theorem sqH (f:Nat->Nat) (l:List Nat):(l.toArray).map f=(l.map f).toArray:=by simp
theorem rq0 (l:List Nat):(⟨l.toArray⟩:Str).cps.toList=l:=rfl
theorem rqC (xs:List V) (m k:Int) (h0:0 < k) (h:k ≤ xs.length):∃ a,a ∈ xs∧atI xs (m % k)=some a:=by
 have h1:=Int.emod_nonneg m (show k ≠ 0 by omega)
 have h2:=Int.emod_lt_of_pos m h0
 have h3:(m % k).toNat < xs.length:=by omega
 refine ⟨xs[(m % k).toNat],List.getElem_mem _,?_⟩
 have:=aqi (xs:=xs) (j:=(m % k).toNat) (v:=xs[(m % k).toNat]) (by simp [h3])
 rw [Int.toNat_of_nonneg h1] at this
 exact this
def hit (a b c:Nat):Bool:=decide ([hexd (c / 16),hexd (c % 16)]=[PyProof.Rows.lo1 a,PyProof.Rows.lo1 b])
mutual
def smallD:PyData->Bool
 | .str x => decide (x.length ≤ 100000)
 | .list xs => decide (xs.length ≤ 100000) && smallAll xs
 | .tuple xs => decide (xs.length ≤ 100000) && smallAll xs
 | .dict _ => false
 | .none => true
 | .bool _ => true
 | .int _ => true
def smallAll:List PyData->Bool
 | [] => true
 | d :: ds => smallD d && smallAll ds
end
theorem gqY:∀ {ds:List PyData}{d:PyData},smallAll ds=true->d ∈ ds->smallD d=true
 | e :: ds,d,h,hm => by
  simp only [smallAll,Bool.and_eq_true] at h
  rcases List.mem_cons.mp hm with rfl | hm
  ·exact h.1
  ·exact gqY h.2 hm
theorem hq6:∀ {ds:List PyData},(∀ d ∈ ds,smallD d=true)->smallAll ds=true
 | [],_ => rfl
 | d :: ds,h => by
  simp only [smallAll,Bool.and_eq_true]
  exact ⟨h d List.mem_cons_self,hq6 fun e he => h e (List.mem_cons_of_mem _ he)⟩
theorem eqQ {x:Str} (h:smallD (.str x)=true):x.length ≤ 100000:=by simpa [smallD] using h
theorem lqg {ds:List PyData} (h:ds.length ≤ 100000) (h2:smallAll ds=true):smallD (.list ds)=true:=by simp [smallD,h,h2]
def isLet (c:Nat):Bool:=decide (65 ≤ c∧c ≤ 90) || decide (97 ≤ c∧c ≤ 122)
def isAln (c:Nat):Bool:=isLet c || decide (48 ≤ c∧c ≤ 57)
theorem tqH:(Str.ofString " !\"#$&'()*+,-./0123456789:;<=>?@ABCDEFGHIJKLMNOPQRSTUVWXYZ[\\]^_`abcdefghijklmnopqrstuvwxyz{|}~").cps.toList=SG:=by decide +kernel
theorem uqc (c:Nat):(decide (c ∈ (Str.ofString " !\"#$&'()*+,-./0123456789:;<=>?@ABCDEFGHIJKLMNOPQRSTUVWXYZ[\\]^_`abcdefghijklmnopqrstuvwxyz{|}~").cps.toList))=isSg c:=by
 rw [tqH,Bool.eq_iff_iff,decide_eq_true_eq,rqh]
def tx:PyData->Bool
 | .str x => x.cps.toList.all isSg
 | _ => false
def ftx:PyData->Bool
 | .str x => x.cps.toList.all isSg && decide (0 < x.length)
 | _ => false
abbrev st (l:List Nat):PyData:=.str ⟨l.toArray⟩
def oD:Option (List Nat)->PyData
 | none => .none
 | some l => st l
def iD:Option Int->PyData
 | none => .none
 | some i => .int i
def qD:Option (List (List Nat × Option (List Nat)))->PyData
 | none => .none
 | some ps => .tuple (ps.map fun p => .tuple [st p.1,oD p.2])
structure Ad where
 scheme:List Nat
 house:Option (List Nat)
 door:Option Int
 rooted:Bool
 steps:List (List Nat)
 ends:Bool
 quest:Option (List (List Nat × Option (List Nat)))
 mark:Option (List Nat)
def Ad.way (x:Ad):PyData:=.tuple [.bool x.rooted,.tuple (x.steps.map st),.bool x.ends]
def Ad.data (x:Ad):PyData:=.tuple [st x.scheme,oD x.house,iD x.door,x.way,qD x.quest,oD x.mark]
def Tx (n:Nat) (l:List Nat):Prop:=l.length ≤ n∧∀ c ∈ l,isSg c=true
structure Ad.Ok (x:Ad):Prop where
 sch:x.scheme.length ≤ 8∧(∀ c ∈ x.scheme,isAln c=true)∧∀ c ∈ x.scheme.take 1,isLet c=true
 hou:∀ l,x.house=some l->0 < l.length∧Tx 60 l
 doo:∀ i,x.door=some i->(0 ≤ i∧i ≤ 65535)∧x.house ≠ none
 stp:x.steps.length ≤ 50∧∀ l ∈ x.steps,0 < l.length∧Tx 60 l
 roo:x.scheme ≠ [] ∨ x.house ≠ none->x.rooted=true
 end_:x.steps=[]->x.ends=x.rooted
 que:∀ ps,x.quest=some ps->ps.length ≤ 20∧∀ p ∈ ps,(0 < p.1.length∧Tx 6 p.1)∧∀ v,p.2=some v->Tx 6 v
 mar:∀ l,x.mark=some l->Tx 60 l
theorem oqO (l:List Nat):(⟨l.toArray⟩:Str).length=l.length:=bqr l
theorem uqm {l:List Nat}:((⟨l.toArray⟩:Str)=⟨#[]⟩) ↔ l=[]:=dqT (m:=[])
def Bad (f:PyData->Bool) (H:Hp) (v:V):Prop:=∃ d,Is H d v∧smallD d=true∧f d=false
def Bads (f:PyData->Bool) (H:Hp) (vs:List V):Prop:=∀ v ∈ vs,Bad f H v
theorem Bads.cons {f:PyData->Bool}{H:Hp}{v:V}{vs:List V} (h:Bad f H v) (r:Bads f H vs):Bads f H (v :: vs):=fun w hw => by
 rcases List.mem_cons.mp hw with rfl | hw
 ·exact h
 ·exact r w hw
theorem cqm {q:Addr}{H H':Hp}{o:HO} (hq:H q=none) (sm:Same H H'):Same H (upd H' q o):=fun b u e => by
 rw [aqq (aql e hq)]; exact sm _ _ e
def dg (i:Int):List Nat:=(Str.ofString (toString i)).cps.toList
theorem rqb {i:Int} (hi:0 ≤ i):∀ c ∈ dg i,48 ≤ c∧c ≤ 57:=by
 intro c hc
 obtain ⟨n,rfl⟩:=Int.eq_ofNat_of_zero_le hi
 unfold dg at hc
 rw [PySem.W.KIN.signs_num,List.mem_map] at hc
 obtain ⟨d,hd,rfl⟩:=hc
 have:=Nat.isDigit_of_mem_toDigits (by decide) (by decide) hd
 simp only [Char.isDigit,Bool.and_eq_true,decide_eq_true_eq] at this
 exact ⟨this.1,this.2⟩
def Hd (p:Nat->Bool) (r:List Nat):Prop:=∀ c r',r=c :: r'->p c=true
theorem Hd.cons {p:Nat->Bool}{c:Nat}{r:List Nat} (h:p c=true):Hd p (c :: r):=fun d r' e => by injection e with e; exact e ▸ h
def tlT (sep:Nat):List (List Nat)->List Nat
 | [] => []
 | s :: r => sep :: (s ++ tlT sep r)
def joinT (sep:Nat):List (List Nat)->List Nat
 | [] => []
 | s :: r => s ++ tlT sep r
def oT (sep:Nat):Option (List Nat)->List Nat
 | none => []
 | some l => sep :: wr l
def pairT (p:List Nat × Option (List Nat)):List Nat:=wr p.1 ++ oT 61 p.2
def queT:Option (List (List Nat × Option (List Nat)))->List Nat
 | none => []
 | some ps => 63 :: joinT 38 (ps.map pairT)
def wayT (r:Bool) (ss:List (List Nat)) (e:Bool):List Nat:=(if r then [47] else []) ++ (joinT 47 (ss.map wr) ++ (if e && !ss.isEmpty then [47] else []))
def dooT:Option Int->List Nat
 | none => []
 | some i => 58 :: dg i
def houT:Option (List Nat)->List Nat
 | none => []
 | some l => 47 :: 47 :: wr l
def schT (s:List Nat):List Nat:=if s=[] then [] else s ++ [58]
def Ad.wayT (x:Ad):List Nat:=Wm.wayT x.rooted x.steps x.ends
def Ad.shw (x:Ad):List Nat:=schT x.scheme ++ (houT x.house ++ (dooT x.door ++ (x.wayT ++ (queT x.quest ++ oT 35 x.mark))))
def PairOk (p:List Nat × Option (List Nat)):Prop:=(0 < p.1.length∧∀ c ∈ p.1,isSg c=true)∧∀ v,p.2=some v->∀ c ∈ v,isSg c=true
def StepOk (s:List Nat):Prop:=0 < s.length∧∀ c ∈ s,isSg c=true
structure Ad.Wf (x:Ad):Prop where
 sch:x.scheme.length ≤ 8∧(∀ c ∈ x.scheme,isAln c=true)∧∀ c ∈ x.scheme.take 1,isLet c=true
 hou:∀ l,x.house=some l->(0 < l.length∧l.length ≤ 60)∧∀ c ∈ l,isSg c=true
 doo:∀ i,x.door=some i->(0 ≤ i∧i ≤ 65535)∧x.house ≠ none
 stp:∀ s ∈ x.steps,StepOk s
 roo:x.scheme ≠ [] ∨ x.house ≠ none->x.rooted=true
 end_:x.steps=[]->x.ends=x.rooted
 que:∀ ps,x.quest=some ps->∀ p ∈ ps,PairOk p
 mar:∀ l,x.mark=some l->∀ c ∈ l,isSg c=true
def Ad.mid (x:Ad):List Nat:=houT x.house ++ (dooT x.door ++ x.wayT)
def Ad.pre (x:Ad):List Nat:=schT x.scheme ++ x.mid
theorem jqb {α:Type}{f:α->PyData} (hf:∀ a b,PyData.eqv (f a) (f b)=true ↔ a=b):∀ (l m:List α),PyData.eqvAll (l.map f) (m.map f)=true ↔ l=m
 | [],[] => by simp [PyData.eqvAll]
 | [],b :: m => by simp [PyData.eqvAll]
 | a :: l,[] => by simp [PyData.eqvAll]
 | a :: l,b :: m => by
  simp only [List.map_cons,PyData.eqvAll,Bool.and_eq_true,List.cons.injEq]
  rw [hf a b,jqb hf l m]
def LayAt (n:Nat) (d:PyData):Prop:=d.canLay0=true∧d.depth ≤ n
theorem LayAt.shaped {n:Nat}{d:PyData} (h:LayAt n d) (hn:n ≤ 64):SeqAt.shaped d=true:=by
 unfold SeqAt.shaped; rw [h.1,decide_eq_true (Nat.le_trans h.2 hn)]; rfl
theorem LayAt.le {n m:Nat}{d:PyData} (h:LayAt n d) (hn:n ≤ m):LayAt m d:=⟨h.1,Nat.le_trans h.2 hn⟩
theorem layAll {n:Nat}:∀ {ds:List PyData},(∀ d ∈ ds,LayAt n d)->PyData.canLayAll0 ds=true∧PyData.depthAll ds ≤ n
 | [],_ => ⟨rfl,Nat.zero_le _⟩
 | d :: ds,h => by
  obtain ⟨h1,h2⟩:=layAll (ds:=ds) fun e he => h e (List.mem_cons_of_mem _ he)
  have:=h d (List.mem_cons_self ..)
  simp only [PyData.canLayAll0,PyData.depthAll,this.1,h1,Bool.and_self,true_and]
  exact Nat.max_le.mpr ⟨this.2,h2⟩
theorem LayAt.tup {n:Nat}{ds:List PyData} (h:∀ d ∈ ds,LayAt n d):LayAt (n + 1) (.tuple ds):=by
 obtain ⟨h1,h2⟩:=layAll h
 exact ⟨by simp only [PyData.canLay0,h1],by simp only [PyData.depth]; omega⟩
theorem LayAt.st {l:List Nat} (h:∀ c ∈ l,isSg c=true):LayAt 0 (st l):=by
 refine ⟨?_,Nat.le_refl _⟩
 simp only [PyData.canLay0,PyData.strOk,List.all_toArray,List.all_eq_true,decide_eq_true_eq]
 intro c hc
 have:=rqr (h c hc)
 omega
theorem LayAt.bool {b:Bool}:LayAt 0 (.bool b):=⟨rfl,Nat.le_refl _⟩
theorem LayAt.iD {o:Option Int}:LayAt 0 (iD o):=by
 cases o with
 | none => exact ⟨rfl,Nat.le_refl _⟩
 | some l => exact ⟨rfl,Nat.le_refl _⟩
end Wm
namespace Wm
structure Ad.Sz (x:Ad):Prop where
 stp:∀ s ∈ x.steps,s.length ≤ 2000
 que:∀ ps,x.quest=some ps->ps.length ≤ 2000∧∀ p ∈ ps,p.1.length ≤ 2000∧∀ v,p.2=some v->v.length ≤ 2000
 mar:∀ l,x.mark=some l->l.length ≤ 2000
 num:x.steps.length ≤ 2000
 all:x.shw.length ≤ 90000
end Wm
namespace Wm
open PySem L2
end Wm
namespace L2
open PySem
end L2
namespace Wm
open PySem L2
abbrev Stp:=List Nat
def sUp:Stp:=[46,46]
def sStay:Stp:=[46]
def isDot (s:Stp):Bool:=decide (s=sUp) || decide (s=sStay)
theorem iqf {s:Stp}:isDot s=false ↔ s ≠ sUp∧s ≠ sStay:=by simp [isDot]
def fwd (r:Bool) (q:Nat × List Stp) (s:Stp):Nat × List Stp :=
 if s=sUp then (match q.2 with | [] => (if r then q.1 else q.1 + 1,[]) | _ :: t => (q.1,t))
 else if s=sStay then q else (q.1,s :: q.2)
def goneS (r:Bool) (ss:List Stp):List Stp:=List.replicate (ss.foldl (fwd r) (0,[])).1 sUp ++ (ss.foldl (fwd r) (0,[])).2.reverse
def lastDot (ss:List Stp):Bool:=match ss.getLast? with | some s => isDot s | none => false
def goneW (r:Bool) (ss:List Stp) (e:Bool):Bool × List Stp × Bool :=
 if ss=[] then (r,[],e) else if goneS r ss=[] then (r,if r then [] else [sStay],true) else (r,goneS r ss,e || lastDot ss)
def stk (q:Nat × List Stp):List Stp:=List.replicate q.1 sUp ++ q.2.reverse
end Wm
namespace L2
open PySem PySem.Spec PyProof.Rows HT
section
variable {prog:Program}{w:World}{A:Around}{E:Value->Shared->Prop}{s:Shared}
theorem fq2 {t sl:Addr}{items:Array Value}{vl vu:Value}{lo hi:Option Int}{Q:Value->Shared->Prop} (ht:IsTup s.heap t items) (hs:s.heap.IsSliceOf sl vl vu .none) (pl:IsPart vl lo) (pu:IsPart vu hi)
  (hw:sIx items.size 0 lo=0∧sIx items.size items.size hi=items.size) (h:Q (.ref t) s):wpAny (model prog w) A (getItem (.ref t) (.ref sl)) Q E s:=by
 obtain ⟨os,hos,hcs,hds⟩:=id hs
 have hTs:s.TypeIs (.ref sl) "slice" := ⟨os,hos,hcs⟩
 unfold getItem
 try with_reducible refine wpAny_holding ?_
 first | refine wpAny_bind (wpAny_pure ?_) | skip
 refine wpAny_bind (wpAny_sequenceKey ht.typeIs (by decide) ?_)
 refine wpAny_bind (wpAny_callSpecial?_slot (name:=Str.ofString "__getitem__") ht.typeIs PyProof.Rows.slot_tuple_getitem
  (wpAny_call_entry PyProof.Rows.slot_tuple_getitem ht.typeIs entry_tuple_getitem ?_ (args_tuple_getitem _ _)))
 show wpAny _ _ (Builtin.Tuple.tupleItemsOf (.ref t) >>= _) _ _ s
 refine wpAny_bind (tupleItemsOf_ ht ?_)
 refine wpAny_bind (wpAny_typeOf hTs ?_)
 rw [if_pos (by decide)]
 refine wpAny_bind (eqw hs pl pu ?_)
 show wpAny _ _ (if (((sIx items.size 0 lo:Nat):Int) == 0 && (1:Int) == 1 && (sIx items.size items.size hi - sIx items.size 0 lo) == items.size)=true then _ else _) _ _ s
 rw [if_pos (by rw [hw.1,hw.2]; simp)]
 refine wpAny_bind ?_
 show wpAny _ _ (typeOf (.ref t) >>= _) _ _ s
 refine wpAny_bind (wpAny_typeOf ht.typeIs (wpAny_pure ?_))
 rw [if_pos (by decide)]
 exact wpAny_bind (wpAny_rule (wpAny_pure ⟨_,rfl,wpAny_pure h⟩))
end
section
variable {X:Cx}{K:PySem.W.Frag}
def rSlTA:V->Option Int->Option Int->Hp->VK->Prop:=fun x lo hi H Q => ∃ a xs,x=.ref a∧H a=some (.tup xs)∧∀ p H',Same H H'->H' p=some (.tup (cutV xs lo hi))->Q (.ref p) H'
theorem nqC {xs:List V}{lo hi:Option Int} (h:sIx xs.length 0 lo=0∧sIx xs.length xs.length hi=xs.length):cutV xs lo hi=xs:=by
 unfold cutV
 rw [h.1,h.2,List.drop_zero,Nat.sub_zero,List.take_length]
theorem jqF:SlR X rSlTA:=by
 intro pins s σ H x v vl vu lo hi sl Q I rx hs pl pu h
 obtain ⟨a,xs,rfl,hx,q⟩:=h
 by_cases hw:sIx xs.length 0 lo=0∧sIx xs.length xs.length hi=xs.length
 ·cases rx
  obtain ⟨its,r,ht,hz⟩:=I.tuple (SqT.of hx)
  have hlen:its.toArray.size=xs.length:=by rw [List.size_toArray]; exact r.length.symm
  refine ⟨"tuple",_,PyProof.Rows.slot_tuple_getitem.lookup,ht.typeIs,?_⟩
  exact fq2 ht hs pl pu (by rw [hlen]; exact hw) ⟨.ref a,H,I,rfl,q a H (Same.refl _) (by rw [nqC hw]; exact hx)⟩
 ·exact uqh pins s σ H _ v vl vu lo hi sl Q I rx hs pl pu ⟨a,xs,rfl,SqT.of hx,hw,fun p hp => q p _ (aqK hp) aqk⟩
theorem qqZ {a:Addr}{lo hi:Option Int}{H:Hp}{Q:VK}:rSlTA (.ref a) lo hi H Q ↔ ∃ xs,H a=some (.tup xs)∧∀ p H',Same H H'->H' p=some (.tup (cutV xs lo hi))->Q (.ref p) H':=by
 constructor
 ·rintro ⟨p,bs,h1,h2⟩; cases h1; exact ⟨bs,h2⟩
 ·rintro ⟨bs,h⟩; exact ⟨a,bs,rfl,h⟩
end
mutual
inductive IsK (K:PySem.W.Frag) (H:Hp):PyData->V->Prop
 | non:IsK K H .none .non
 | bl (b:Bool):IsK K H (.bool b) (.bl b)
 | int (i:Int):IsK K H (.int i) (.int i)
 | str (x:Str):IsK K H (.str x) (.str x)
 | tup {p:Addr}{xs:List V}{ds:List PyData}:SqT K H p xs->IsKAll K H ds xs->IsK K H (.tuple ds) (.ref p)
inductive IsKAll (K:PySem.W.Frag) (H:Hp):List PyData->List V->Prop
 | nil:IsKAll K H [] []
 | cons {d:PyData}{x:V}{ds:List PyData}{xs:List V}:IsK K H d x->IsKAll K H ds xs->IsKAll K H (d :: ds) (x :: xs)
end
section
variable {K:PySem.W.Frag}{H H':Hp}
mutual
theorem IsK.mono (sm:Same H H'):∀ {d:PyData}{x:V},IsK K H d x->IsK K H' d x
 | _,_,.non => .non
 | _,_,.bl b => .bl b
 | _,_,.int i => .int i
 | _,_,.str x => .str x
 | _,_,.tup h r => .tup (sm.tup h) (IsKAll.mono sm r)
theorem IsKAll.mono (sm:Same H H'):∀ {ds:List PyData}{xs:List V},IsKAll K H ds xs->IsKAll K H' ds xs
 | _,_,.nil => .nil
 | _,_,.cons h r => .cons (IsK.mono sm h) (IsKAll.mono sm r)
end
mutual
theorem IsT.k:∀ {d:PyData}{x:V},IsT H d x->IsK K H d x
 | _,_,.non => .non
 | _,_,.bl b => .bl b
 | _,_,.int i => .int i
 | _,_,.str x => .str x
 | _,_,.tup h r => .tup (SqT.of h) (IsTAll.k r)
theorem IsTAll.k:∀ {ds:List PyData}{xs:List V},IsTAll H ds xs->IsKAll K H ds xs
 | _,_,.nil => .nil
 | _,_,.cons h r => .cons (IsT.k h) (IsTAll.k r)
end
end
section
variable {X:Cx}{pins:List (Addr × Obj)}{σ:St}{H:Hp}{s:Shared}
mutual
theorem IsK.reads (I:Inv X pins σ H s):∀ {d:PyData}{x:V}{v:Value},IsK X.K H d x->RelV x v->∃ as,Reads s.heap v d as
 | _,_,_,.non,r => by cases r; exact ⟨_,.none⟩
 | _,_,_,.bl b,r => by cases r; exact ⟨_,.bool b⟩
 | _,_,_,.int i,r => by obtain ⟨t,rfl⟩:=r; exact ⟨_,.int i t⟩
 | _,_,_,.str x,r => by obtain ⟨t,rfl⟩:=r; exact ⟨_,.str x t⟩
 | _,_,_,.tup h q,r => by
  cases r
  obtain ⟨its,vs,⟨o,e,c,n,dt⟩,_⟩:=I.tuple h
  obtain ⟨as,ra⟩:=IsKAll.reads I q vs
  exact ⟨_,.tuple e c dt (by simpa using ra)⟩
theorem IsKAll.reads (I:Inv X pins σ H s):∀ {ds:List PyData}{xs:List V}{vs:List Value},IsKAll X.K H ds xs->Vals xs vs->∃ as,ReadsAll s.heap vs ds as
 | _,_,_,.nil,r => by cases r; exact ⟨_,.nil⟩
 | _,_,_,.cons q t,r => by
  cases r with
  | cons r1 r2 =>
   obtain ⟨as,h1⟩:=IsK.reads I q r1
   obtain ⟨bs,h2⟩:=IsKAll.reads I t r2
   exact ⟨_,.cons h1 h2⟩
end
variable {K:PySem.W.Frag}
def rSlX (K:PySem.W.Frag):V->Option Int->Option Int->Hp->VK->Prop:=fun x lo hi H Q => ∃ a xs,x=.ref a∧SqT K H a xs∧∀ p H',Same H H'->SqT K H' p (cutV xs lo hi)->Q (.ref p) H'
theorem rqD {a:Addr}{lo hi:Option Int}{H:Hp}{Q:VK}:rSlX K (.ref a) lo hi H Q ↔ ∃ xs,SqT K H a xs∧∀ p H',Same H H'->SqT K H' p (cutV xs lo hi)->Q (.ref p) H':=by
 constructor
 ·rintro ⟨p,bs,h1,h2⟩; cases h1; exact ⟨bs,h2⟩
 ·rintro ⟨bs,h⟩; exact ⟨a,bs,rfl,h⟩
def rCatX (K:PySem.W.Frag):R2:=fun x y H Q => ∃ a b xs ys,x=.ref a∧y=.ref b∧SqT K H a xs∧SqT K H b ys∧xs.length + ys.length ≤ sizeLine∧∀ p H',Same H H'->SqT K H' p (xs ++ ys)->Q (.ref p) H'
theorem pq7 {a b:Addr}{H:Hp}{Q:VK}:rCatX K (.ref a) (.ref b) H Q ↔ ∃ xs ys,SqT K H a xs∧SqT K H b ys∧xs.length + ys.length ≤ sizeLine∧∀ p H',Same H H'->SqT K H' p (xs ++ ys)->Q (.ref p) H':=by
 constructor
 ·rintro ⟨p,p',xs,ys,h1,h2,h3⟩; cases h1; cases h2; exact ⟨xs,ys,h3⟩
 ·rintro ⟨xs,ys,h⟩; exact ⟨a,b,xs,ys,rfl,rfl,h⟩
def KindK (K:PySem.W.Frag) (H:Hp) (x:V) (k:String):Prop:=kindV x H=some k ∨ ∃ a xs,x=.ref a∧SqT K H a xs∧k = "tuple"
theorem KindK.tup {K:PySem.W.Frag}{H:Hp}{a:Addr}{xs:List V} (h:SqT K H a xs):KindK K H (.ref a) "tuple" := .inr ⟨a,xs,rfl,h,rfl⟩
def rIsiX (K:PySem.W.Frag):List V->Hp->VK->Prop:=fun vs H Q => match vs with
 | [x,.ty T] => ∃ k,KindK K H x k∧T ∈ ["bool","int","str","list","tuple"]∧Q (.bl (subT k T)) H
 | _ => False
theorem qqH {x:V}{T:String}{H:Hp}{Q:VK}:(rIsiX K [x,.ty T] H Q)=(∃ k,KindK K H x k∧T ∈ ["bool","int","str","list","tuple"]∧Q (.bl (subT k T)) H):=rfl
end
end L2
namespace Wm
open PySem L2
section
variable {K:PySem.W.Frag}{H:Hp}
end
end Wm
namespace L2
open PySem PySem.Spec PyProof.Rows
theorem Vals.at {xs:List V}{us:List Value} (h:Vals xs us):∀ (i:Nat),(∃ x u,xs[i]?=some x∧us[i]?=some u∧RelV x u) ∨ (xs[i]?=none∧us[i]?=none):=by
 induction h with
 | nil => intro i; exact .inr ⟨by simp,by simp⟩
 | cons r _ ih =>
  intro i
  cases i with
  | zero => exact .inl ⟨_,_,rfl,rfl,r⟩
  | succ i => simpa using ih i
theorem Vals.pick {xs:List V}{us:List Value} (h:Vals xs us):∀ (l:List Nat),Vals (l.filterMap fun i => xs[i]?) (l.filterMap fun i => us[i]?)
 | [] => .nil
 | i :: l => by
  rcases h.at i with ⟨x,u,h1,h2,r⟩ | ⟨h1,h2⟩
  ·rw [List.filterMap_cons_some h1,List.filterMap_cons_some h2]; exact .cons r (h.pick l)
  ·rw [List.filterMap_cons_none h1,List.filterMap_cons_none h2]; exact h.pick l
def pickV {α:Type} (xs:List α) (lo hi st:Option Int):List α :=
 (sliceRange (sliceBounds lo hi st xs.length).1 (sliceBounds lo hi st xs.length).2.1 (sliceBounds lo hi st xs.length).2.2).filterMap fun i => xs[i]?
section
variable {X:Cx}
def tSl3 (K:PySem.W.Frag) (te:TE) (tl th ts:TO):TE:=fun σ H Q => te σ H fun x H1 => tl σ H1 fun l H2 => th σ H2 fun u H3 => ts σ H3 fun k H4 =>
 ∃ a xs,x=.ref a∧SqL K H4 a xs∧k ≠ some 0∧(pickV xs l u k).length ≤ sizeLine∧∀ p,H4 p=none->Q (.ref p) (upd H4 p (.lst (pickV xs l u k)))
theorem nqN {e:Expr}{lo hi:Option Expr}{st:Expr}{te:TE}{tl th ts:TO}{p2 pos:Pos} (he:PE X e te) (hl:PO X lo tl) (hu:PO X hi th) (hs:PO X (some st) ts):PE X (.Subscript e (.Slice lo hi (some st) p2) pos) (tSl3 X.K te tl th ts):=by
 intro pins s σ H Q I h
 refine Subscript_ (thn (he pins s σ H _ I h) fun v s1 W' => ?_)
 obtain ⟨x,H1,I1,r1,q1⟩:=W'
 refine wpAny_Slice (thn (hl pins s1 σ H1 _ I1 q1) fun vl s2 ⟨l,H2,I2,pl,q2⟩ => thn (hu pins s2 σ H2 _ I2 q2) fun vu s3 ⟨u,H3,I3,pu,q3⟩ => thn (hs pins s3 σ H3 _ I3 q3) fun vs s4 W' => ?_)
 obtain ⟨k,H4,I4,ps,q4⟩:=W'
 have I5:Inv X pins σ H4 { s4 with heap:=s4.heap.push { cls:=.type "slice",data:=.fields #[vl,vu,vs] } }:=I4.kept (t':=s4.toks) fun b ob q => Heap.get?_push_of_some _ q
 obtain ⟨a,xs,rfl,hx,hk,hz,q⟩:=q4
 cases r1
 obtain ⟨its,r,ht,_⟩:=I5.list hx
 have hlen:=r.length
 show wpAny (model X.prog X.w) X.A (subscriptTail e (.Slice lo hi (some st) p2) (.ref a) (.ref s4.heap.objs.size)) (EP X pins σ Q) X.xe { s4 with heap:=s4.heap.push { cls:=.type "slice",data:=.fields #[vl,vu,vs] } }
 refine tail_any (ops:=[.ref a,.ref s4.heap.objs.size]) ht.isList.typeIs slot_list_getitem.lookup ?_ (by with_unfolding_all rfl)
 refine wpAny_getItem_list_slice ht.isList (Heap.IsSliceOf.new ..) pl pu ps hk ?_ (by rw [List.size_toArray] <;> omega)
 have e:slicePick its.toArray l u k=((sliceRange (sliceBounds l u k xs.length).1 (sliceBounds l u k xs.length).2.1 (sliceBounds l u k xs.length).2.2).filterMap fun i => its[i]?).toArray:=by
  unfold slicePick
  rw [List.size_toArray,<- hlen]
  simp
 rw [e]
 refine ⟨.ref _,_,I5.laid (t':=s4.toks) (o:=.lst (pickV xs l u k)) (fun b ob q => Heap.get?_push_of_some _ q) (Nat.le_refl _) ?_,rfl,q _ (I5.hok.fresh (Nat.le_refl _))⟩
 exact ⟨hz,_,0,r.pick _,Heap.get?_push_size _ rfl⟩
theorem jqh {K:PySem.W.Frag}{e:Expr}{lo hi:Option Expr}{st:Expr}{te:TE}{tl th ts:TO}{p2 pos:Pos} (h:X.K=K) (he:PE X e te) (hl:PO X lo tl) (hu:PO X hi th) (hs:PO X (some st) ts):PE X (.Subscript e (.Slice lo hi (some st) p2) pos) (tSl3 K te tl th ts):=by
 subst h; exact nqN he hl hu hs
end
theorem tqp {K:PySem.W.Frag}{te:TE}{tl th ts:TO}{σ:St}{H:Hp}{Q:VK}:tSl3 K te tl th ts σ H Q ↔ te σ H fun x H1 => tl σ H1 fun l H2 => th σ H2 fun u H3 => ts σ H3 fun k H4 =>
 ∃ a xs,x=.ref a∧SqL K H4 a xs∧k ≠ some 0∧(pickV xs l u k).length ≤ sizeLine∧∀ p,H4 p=none->Q (.ref p) (upd H4 p (.lst (pickV xs l u k))):=Iff.rfl
end L2
namespace Wm
open PySem L2
abbrev Way:=Bool × List Stp × Bool
def Ad.w (x:Ad):Way:=(x.rooted,x.steps,x.ends)
def Ad.withWay (x:Ad) (w:Way):Ad:={ x with rooted:=w.1,steps:=w.2.1,ends:=w.2.2 }
def goneV (w:Way):Way:=goneW w.1 w.2.1 w.2.2
def Ad.gone (x:Ad):Ad:=x.withWay (goneV x.w)
theorem uqq {l:Addr}{H:Hp}{Q:VK}:rReverse (.ref l) [] H Q ↔ ∃ xs,H l=some (.lst xs)∧Q .non (upd H l (.lst xs.reverse)) :=
 ⟨fun ⟨_,xs,e,_,h,q⟩ => by cases e; exact ⟨xs,h,q⟩,fun ⟨xs,h,q⟩ => ⟨l,xs,rfl,rfl,h,q⟩⟩
abbrev sV (l:List Nat):V:=.str ⟨l.toArray⟩
theorem nqK {α:Type}{l:List α}{i:Nat}{a:α} (h:l[i]?=some a):l.drop i=a :: l.drop (i + 1):=by
 obtain ⟨hi,e⟩:=List.getElem?_eq_some_iff.mp h
 rw [<- e]; exact List.drop_eq_getElem_cons hi
theorem jqD (ds:List PyData):PyData.eqv (.list ds) (.list [])=ds.isEmpty:=by
 cases ds <;> simp [PyData.eqv,PyData.eqvAll]
theorem qqs {α:Type}{l:List α}{s:α} (g:α->V) (h:l.getLast?=some s):atI (l.map g) (-1)=some (g s):=by
 obtain ⟨pre,rfl⟩:=List.getLast?_eq_some_iff.mp h
 have e:ixN ((pre ++ [s]).map g).length (-1)=some pre.length:=by
  unfold ixN
  simp
  try omega
 unfold atI
 rw [e]
 simp
theorem oqf (s:Stp):inV (sV s) [sV sStay,sV sUp]=isDot s:=by
 have e:∀ a:Stp,eqV (sV a) (sV s)=decide (s=a):=fun a => by
  show ((⟨a.toArray⟩:Str) == ⟨s.toArray⟩)=decide (s=a)
  rw [Bool.eq_iff_iff,beq_iff_eq,decide_eq_true_eq,dqT]
  exact ⟨Eq.symm,Eq.symm⟩
 unfold inV isDot
 simp only [List.any_cons,List.any_nil,Bool.or_false,e]
 rw [Bool.or_comm]
end Wm
namespace L2
open PySem
theorem iq5 {X:Cx}{K:PySem.W.Frag} (h:X.K=K):OpR X (compareOp .In) (rIn K false):=by subst h; exact nqG
theorem uql {l:Addr}{H:Hp}{Q:VK}:rPop (.ref l) [] H Q ↔ ∃ xs y,H l=some (.lst xs)∧xs[xs.length - 1]?=some y∧Q y (upd H l (.lst xs.dropLast)) :=
 ⟨fun ⟨_,xs,y,h1,_,h3,h4,h5⟩ => by cases h1; exact ⟨xs,y,h3,h4,h5⟩,fun ⟨xs,y,h3,h4,h5⟩ => ⟨_,xs,y,rfl,rfl,h3,h4,h5⟩⟩
theorem pqB {D:Ends}{σ:St}{H:Hp}:(tNever D σ H)=(False):=rfl
end L2
namespace Wm
open PySem L2
structure Ad.Tiny (x:Ad):Prop where
 stp:∀ s ∈ x.steps,s.length ≤ 9
 que:∀ ps,x.quest=some ps->ps.length ≤ 3∧∀ p ∈ ps,p.1.length ≤ 5∧∀ v,p.2=some v->v.length ≤ 6
 mar:∀ l,x.mark=some l->l.length ≤ 7
 hou:∀ l,x.house=some l->l.length ≤ 13
end Wm
namespace Wm
end Wm
namespace Wm
open PySem L2
def cutA {α:Type} (xs:List α) (lo hi:Option Int):List α:=(xs.drop (HT.sIx xs.length 0 lo)).take (HT.sIx xs.length xs.length hi - HT.sIx xs.length 0 lo)
theorem mqs {α:Type} (f:α->V) (xs:List α) (lo hi:Option Int):cutV (xs.map f) lo hi=(cutA xs lo hi).map f:=by
 unfold cutV cutA; rw [List.length_map,List.map_take,List.map_drop]
theorem lq6 {α:Type} (xs:List α) (lo hi:Option Int):(cutA xs lo hi).length ≤ xs.length:=by
 unfold cutA; rw [List.length_take,List.length_drop]; omega
end Wm
namespace L2
open PySem
end L2
namespace Wm
open PySem L2
section
variable {H:Hp}
end
theorem Ad.Wf.local {x:Ad} (h:x.Wf):({ x with scheme:=[],house:=none,door:=none }:Ad).Wf :=
 ⟨⟨Nat.zero_le _,(fun c hc => by cases hc),(fun c hc => by cases hc)⟩,(fun l e => by cases e),(fun l e => by cases e),h.stp,(fun z => z.elim (fun y => absurd rfl y) (fun y => absurd rfl y)),h.end_,h.que,h.mar⟩
def Goods (n:Nat) (H:Hp) (vs:List V):Prop:=∀ v ∈ vs,∃ x:Ad,x.Wf∧x.steps.length ≤ n∧IsT H x.data v
theorem Goods.cons {n:Nat}{H:Hp}{v:V}{vs:List V}{x:Ad} (h1:x.Wf) (h2:x.steps.length ≤ n) (h3:IsT H x.data v) (h:Goods n H vs):Goods n H (v :: vs):=fun u hu => by
 rcases List.mem_cons.mp hu with rfl | hu
 ·exact ⟨x,h1,h2,h3⟩
 ·exact h u hu
end Wm
namespace L2
open PySem PySem.Spec PyProof.Rows
theorem uq2 {b c:Bool}{H:Hp}{Q:VK}:(rIsB true (.bl b) (.bl c) H Q)=(Q (.bl (!decide (b=c))) H):=rfl
end L2
namespace Wm
open PySem L2
structure GoodAd (n:Nat) (x:Ad):Prop where
 wf:x.Wf
 ti:x.Tiny
 sc:x.scheme ≠ []
 ln:x.steps.length ≤ n
end Wm
namespace L2
open PySem PySem.Spec PyProof.Rows
section
variable {prog:Program}{w:World}{A:Around}{E:Value->Shared->Prop}{s:Shared}
end
def Itv (K:PySem.W.Frag) (a:Addr) (n:Nat):It :=
 ⟨fun i H => ∃ xs x,SqT K H a xs∧xs.length=n∧i < n∧xs[n - 1 - i]?=some x,fun i H x H' => H'=H∧∀ xs,SqT K H a xs->xs.length=n->xs[n - 1 - i]?=some x,fun i _ => n ≤ i⟩
section
variable {X:Cx}{tg:Expr}{K:PySem.W.Frag}
def iRev (K:PySem.W.Frag) (ta:TA):TI:=fun σ H R => ta σ H fun vs H1 => ∃ a xs,vs=[.ref a]∧SqT K H1 a xs∧R (Itv K a xs.length) H1
variable {σ:St}{H:Hp}{D:Ends}{g:TG}{tb:TS}{aa:TA}
theorem sq3:(tFor (iRev K aa) g tb D σ H)=(aa σ H fun vs H1 => ∃ a xs,vs=[.ref a]∧SqT K H1 a xs∧LoopI (Itv K a xs.length) g tb D σ H1):=rfl
end
theorem kqC:fillsNumberSlot (.type "tuple") "mul" = pure false:=PySem.fillsNumberSlot_seq (id := "tuple.__mul__") (r:=some (.builtin "tuple.__rmul__")) F.slot_tuple_mul.lookup (by decide +kernel) F.slot_tuple_rmul.lookup (by decide +kernel)
theorem kqr:seqRepeat? (.type "tuple")=pure (some (.builtin "tuple.__mul__")):=by
 unfold seqRepeat?
 rw [PySem.seqSlot_of (T := "tuple") (name := "__mul__") (id := "tuple.__mul__") F.slot_tuple_mul.lookup (by decide +kernel),PySem.seqSlot_of (T := "tuple") (name := "__rmul__") (id := "tuple.__rmul__") F.slot_tuple_rmul.lookup (by decide +kernel)]
 rfl
theorem pqc (a:Int) (t:Tok) (l:Addr) (items:Array Value) (n:Nat) (dd:Option Addr) (sl:Array (Option Value)) :
  Meets (Builtin.«int.__rmul__» ⟨[.int a t,.ref l],[]⟩) (fun _ R s => s.heap.get? l=some { cls:=.type "tuple",dict:=dd,data:=.seq items n,slots:=sl }∧R (.ok (.ret Value.notImplemented)) s) :=
 .of_wp fun prog w A R s h => by
  obtain ⟨hp,g,d,tk,os⟩:=s; obtain ⟨hl,h⟩:=h
  wp_walk; exact ⟨_,rfl,h⟩
theorem tq8 (l:Addr) (items:Array Value) (n:Nat) (dd:Option Addr) (sl:Array (Option Value)) (x:Int) (u:Tok) (h0:items.isEmpty=false) (h1:¬ (decide (x < -(2 ^ 63)) || decide (x ≥ 2 ^ 63))=true) (h2:2 ≤ x) (h3:¬ ((items.size:Int) * x > (2 ^ 63 - 1) / 8)) (h4:(items.size:Int) * x ≤ sizeLine) :
  Meets (Builtin.«tuple.__mul__» ⟨[.ref l,.int x u],[]⟩) (fun _ R s => s.heap.get? l=some { cls:=.type "tuple",dict:=dd,data:=.seq items n,slots:=sl } ∧
   R (.ok (.ret (Value.ref s.heap.objs.size))) { s with heap:=s.heap.push { cls:=Value.type "tuple",data:=Data.seq (List.foldl (fun x1 x2 => x1 ++ x2) #[] (List.replicate x.toNat items)) },toks:=s.toks }) :=
 .of_wp fun prog w A R s h => by
  obtain ⟨hp,g,d,tk,os⟩:=s; obtain ⟨hl,h⟩:=h
  unfold Builtin.«tuple.__mul__»
  wp_walk
  have hx1:¬ (items.isEmpty || x == 1)=true:=by rw [h0,Bool.false_or]; intro z; have:=eq_of_beq z; omega
  have hx2:¬ (decide (x ≤ 0) || items.isEmpty)=true:=by rw [h0,Bool.or_false,decide_eq_true_eq]; omega
  have hx3:¬ Builtin.Tuple.tupleTooMany ((items.size:Int) * x)=true:=by unfold Builtin.Tuple.tupleTooMany; rw [decide_eq_true_eq]; omega
  rw [if_neg h1]
  wp_walk
  rw [if_neg hx1]
  try dsimp only
  rw [if_neg hx2]
  try dsimp only
  rw [if_neg h3]
  try dsimp only
  rw [if_neg hx3]
  refine wpAny_bind (m:=Builtin.Tuple.tupleExact _) (wpAny_newObj_type (wpAny_pure ⟨_,rfl,h⟩) ?_)
  show (List.foldl (fun x1 x2 => x1 ++ x2) #[] (List.replicate x.toNat items)).size ≤ sizeLine
  have e:List.foldl (fun x1 x2 => x1 ++ x2) #[] (List.replicate x.toNat items.toList.toArray)=(List.replicate x.toNat items.toList).flatten.toArray:=by
   have:=iqq items.toList x.toNat []
   rw [List.nil_append] at this
   exact this
  rw [show items.toList.toArray=items by simp] at e
  rw [e,List.size_toArray,oqF,Array.length_toList]
  have:(items.size:Int) * x=((x.toNat * items.size:Nat):Int):=by rw [Int.natCast_mul,Int.toNat_of_nonneg (by omega),Int.mul_comm]
  omega
section
variable {X:Cx}
def rRepT:R2:=fun x y H Q => ∃ a k xs,x=.ref a∧y=.int k∧H a=some (.tup xs)∧2 ≤ k∧k < 1000∧xs.length * k.toNat ≤ sizeLine∧∀ p H',Same H H'->H' p=some (.tup (List.replicate k.toNat xs).flatten)->Q (.ref p) H'
theorem pqf (l:Addr) (items:Array Value) (n:Nat) (dd:Option Addr) (sl:Array (Option Value)) (x:Int) (u:Tok) (h0:items.isEmpty=true) (h1:¬ (decide (x < -(2 ^ 63)) || decide (x ≥ 2 ^ 63))=true) :
  Meets (Builtin.«tuple.__mul__» ⟨[.ref l,.int x u],[]⟩) (fun _ R s => s.heap.get? l=some { cls:=.type "tuple",dict:=dd,data:=.seq items n,slots:=sl }∧R (.ok (.ret (Value.ref l))) s) :=
 .of_wp fun prog w A R s h => by
  obtain ⟨hp,g,d,tk,os⟩:=s; obtain ⟨hl,h⟩:=h
  unfold Builtin.«tuple.__mul__»
  have hx1:(items.isEmpty || x == 1)=true:=by rw [h0,Bool.true_or]
  wp_walk
  rw [if_neg h1]
  wp_walk
  exact ⟨_,rfl,h⟩
theorem rqP:OpR X (binaryOp .Mult) rRepT:=by
 intro pins s σ H x y v u Q I rx ry h
 obtain ⟨a,k,xs,rfl,rfl,hH,h1,h2,hz,q⟩:=h
 cases rx
 obtain ⟨t,rfl⟩:=ry
 obtain ⟨its,r,p,hl⟩:=I.tuple (SqT.of hH)
 obtain ⟨⟨cls,dd,data,sl⟩,ho,hc,n,hd⟩:=id p
 simp only at hc hd
 subst hc hd
 have hlen:=r.length
 have hb:¬ (decide (k < -(2 ^ 63)) || decide (k ≥ 2 ^ 63))=true:=by
  rw [Bool.or_eq_true,decide_eq_true_eq,decide_eq_true_eq]; omega
 have hprod:((its.toArray.size:Nat):Int) * k ≤ sizeLine:=by
  rw [List.size_toArray,<- hlen]
  have:(xs.length:Int) * k=((xs.length * k.toNat:Nat):Int):=by rw [Int.natCast_mul,Int.toNat_of_nonneg (by omega)]
  omega
 refine wpAny_binaryOp_repeat_ref (T := "tuple") (U := "int") (by decide) p.typeIs (fun s' => typeIs_int s' k t) kqC F.fills_int_mul F.slot_int_rmul kqr F.slot_int_index.lookup
  (call_meets F.slot_int_rmul (typeIs_int s k t) F.entry_int_rmul (F.args_int_rmul_2 _ _) (pqc k t a its.toArray n dd sl) ⟨ho,rfl,p.typeIs,?_⟩)
 by_cases he:its=[]
 ·subst he
  have hx0:xs=[]:=r.nil_iff.mp rfl
  subst hx0
  exact call_meets F.slot_tuple_mul p.typeIs F.entry_tuple_mul (F.args_tuple_mul_2 _ _) (pqf a _ n dd sl k t rfl hb) ⟨ho,.ref a,H,I,rfl,q a H (Same.refl _) (by rw [hH]; congr 2; exact (List.flatten_eq_nil_iff.mpr fun l hl => (List.mem_replicate.mp hl).2).symm)⟩
 ·have h0:its.toArray.isEmpty=false:=by simpa using he
  have hcap:¬ (((its.toArray.size:Nat):Int) * k > (2 ^ 63 - 1) / 8):=by
   have:(sizeLine:Int) ≤ (2 ^ 63 - 1) / 8:=by decide
   omega
  refine call_meets F.slot_tuple_mul p.typeIs F.entry_tuple_mul (F.args_tuple_mul_2 _ _) (tq8 a _ n dd sl k t h0 hb h1 hcap hprod) ⟨ho,?_⟩
  have e:List.foldl (fun x1 x2 => x1 ++ x2) #[] (List.replicate k.toNat its.toArray)=(List.replicate k.toNat its).flatten.toArray:=by
   have:=iqq its k.toNat []
   rw [List.nil_append] at this
   exact this
  rw [e]
  have hf:H s.heap.objs.size=none:=I.hok.fresh (Nat.le_refl _)
  refine ⟨.ref s.heap.objs.size,_,I.laid (t':=s.toks) (o:=.tup (List.replicate k.toNat xs).flatten) (fun b ob q => Heap.get?_push_of_some _ q) (Nat.le_refl _) ?_,rfl,q _ _ (aqK hf) aqk⟩
  exact ⟨by rw [oqF,Nat.mul_comm]; exact hz,_,r.rep k.toNat,IsTup.new _ _⟩
theorem pqE {a:Addr}{k:Int}{H:Hp}{Q:VK}:rRepT (.ref a) (.int k) H Q ↔ ∃ xs,H a=some (.tup xs)∧2 ≤ k∧k < 1000∧xs.length * k.toNat ≤ sizeLine∧∀ p H',Same H H'->H' p=some (.tup (List.replicate k.toNat xs).flatten)->Q (.ref p) H':=by
 constructor
 ·rintro ⟨a',k',xs,h1,h2,h⟩; cases h1; cases h2; exact ⟨xs,h⟩
 ·rintro ⟨xs,h⟩; exact ⟨a,k,xs,rfl,rfl,h⟩
def rRepS:R2:=fun x y H Q => ∃ l k xs,x=.ref l∧y=.int k∧H l=some (.lst xs)∧0 ≤ k∧k < 1000000∧xs.length * k.toNat ≤ sizeLine∧∀ p H',H p=none->Same H H'->H' p=some (.lst (List.replicate k.toNat xs).flatten)->Q (.ref p) H'
theorem qqV {a:Addr}{k:Int}{H:Hp}{Q:VK}:rRepS (.ref a) (.int k) H Q ↔ ∃ xs,H a=some (.lst xs)∧0 ≤ k∧k < 1000000∧xs.length * k.toNat ≤ sizeLine∧∀ p H',H p=none->Same H H'->H' p=some (.lst (List.replicate k.toNat xs).flatten)->Q (.ref p) H':=by
 constructor
 ·rintro ⟨a',k',xs,h1,h2,h⟩; cases h1; cases h2; exact ⟨xs,h⟩
 ·rintro ⟨xs,h⟩; exact ⟨a,k,xs,rfl,rfl,h⟩
end
theorem tqD (l:Addr) (items:Array Value) (n:Nat) (dd:Option Addr) (sl:Array (Option Value)) (u:Tok) :
  Meets (Builtin.«tuple.__mul__» ⟨[.ref l,.int 1 u],[]⟩) (fun _ R s => s.heap.get? l=some { cls:=.type "tuple",dict:=dd,data:=.seq items n,slots:=sl }∧R (.ok (.ret (Value.ref l))) s) :=
 .of_wp fun prog w A R s h => by
  obtain ⟨hp,g,d,tk,os⟩:=s; obtain ⟨hl,h⟩:=h
  unfold Builtin.«tuple.__mul__»
  have hx1:(items.isEmpty || ((1:Int) == 1))=true:=by simp
  have h1:¬ (decide ((1:Int) < -(2 ^ 63)) || decide ((1:Int) ≥ 2 ^ 63))=true:=by decide
  wp_walk
  first | rw [if_neg h1] | skip
  wp_walk
  first | rw [if_pos hx1] | skip
  wp_walk
  exact ⟨_,rfl,h⟩
theorem rqy (l:Addr) (items:Array Value) (n:Nat) (dd:Option Addr) (sl:Array (Option Value)) (u:Tok) (h0:items.isEmpty=false) :
  Meets (Builtin.«tuple.__mul__» ⟨[.ref l,.int 0 u],[]⟩) (fun _ R s => s.heap.get? l=some { cls:=.type "tuple",dict:=dd,data:=.seq items n,slots:=sl } ∧
   R (.ok (.ret (Value.ref s.heap.objs.size))) { s with heap:=s.heap.push { cls:=Value.type "tuple",data:=Data.seq #[] },toks:=s.toks }) :=
 .of_wp fun prog w A R s h => by
  obtain ⟨hp,g,d,tk,os⟩:=s; obtain ⟨hl,h⟩:=h
  unfold Builtin.«tuple.__mul__»
  have h1:¬ (decide ((0:Int) < -(2 ^ 63)) || decide ((0:Int) ≥ 2 ^ 63))=true:=by decide
  have hx1:¬ (items.isEmpty || ((0:Int) == 1))=true:=by rw [h0]; decide
  have hx2:(decide ((0:Int) ≤ 0) || items.isEmpty)=true:=by simp
  wp_walk
  first | rw [if_neg h1] | skip
  wp_walk
  first | rw [if_neg hx1] | skip
  try dsimp only
  first | rw [if_pos hx2] | skip
  exact ⟨_,rfl,h⟩
section
variable {X:Cx}
def rRepN:R2:=fun x y H Q => ∃ a k xs,x=.ref a∧y=.int k∧H a=some (.tup xs)∧0 ≤ k∧k < 1000∧xs.length * k.toNat ≤ sizeLine∧∀ p H',Same H H'->H' p=some (.tup (List.replicate k.toNat xs).flatten)->Q (.ref p) H'
theorem rqJ:OpR X (binaryOp .Mult) rRepN:=by
 intro pins s σ H x y v u Q I rx ry h
 obtain ⟨a,k,xs,rfl,rfl,hH,h1,h2,hz,q⟩:=h
 by_cases hk:2 ≤ k
 ·exact rqP pins s σ H _ _ v u Q I rx ry ⟨a,k,xs,rfl,rfl,hH,hk,h2,hz,q⟩
 cases rx
 obtain ⟨t,rfl⟩:=ry
 obtain ⟨its,r,p,hl⟩:=I.tuple (SqT.of hH)
 obtain ⟨⟨cls,dd,data,sl⟩,ho,hc,n,hd⟩:=id p
 simp only at hc hd
 subst hc hd
 refine wpAny_binaryOp_repeat_ref (T := "tuple") (U := "int") (by decide) p.typeIs (fun s' => typeIs_int s' k t) kqC F.fills_int_mul F.slot_int_rmul kqr F.slot_int_index.lookup
  (call_meets F.slot_int_rmul (typeIs_int s k t) F.entry_int_rmul (F.args_int_rmul_2 _ _) (pqc k t a its.toArray n dd sl) ⟨ho,rfl,p.typeIs,?_⟩)
 have h01:k=0 ∨ k=1:=by omega
 rcases h01 with rfl | rfl
 ·by_cases he:its=[]
  ·subst he
   have hx0:xs=[]:=r.nil_iff.mp rfl
   subst hx0
   exact call_meets F.slot_tuple_mul p.typeIs F.entry_tuple_mul (F.args_tuple_mul_2 _ _) (pqf a _ n dd sl 0 t rfl (by decide)) ⟨ho,.ref a,H,I,rfl,q a H (Same.refl _) hH⟩
  ·have h0:its.toArray.isEmpty=false:=by simpa using he
   refine call_meets F.slot_tuple_mul p.typeIs F.entry_tuple_mul (F.args_tuple_mul_2 _ _) (rqy a _ n dd sl t h0) ⟨ho,?_⟩
   have hf:H s.heap.objs.size=none:=I.hok.fresh (Nat.le_refl _)
   refine ⟨.ref s.heap.objs.size,_,I.laid (t':=s.toks) (o:=.tup []) (fun b ob q => Heap.get?_push_of_some _ q) (Nat.le_refl _) ?_,rfl,q _ _ (aqK hf) aqk⟩
   exact ⟨Nat.zero_le _,[],.nil,IsTup.new _ _⟩
 ·exact call_meets F.slot_tuple_mul p.typeIs F.entry_tuple_mul (F.args_tuple_mul_2 _ _) (tqD a _ n dd sl t) ⟨ho,.ref a,H,I,rfl,q a H (Same.refl _) (by rw [hH]; simp)⟩
theorem qqb {a:Addr}{k:Int}{H:Hp}{Q:VK}:rRepN (.ref a) (.int k) H Q ↔ ∃ xs,H a=some (.tup xs)∧0 ≤ k∧k < 1000∧xs.length * k.toNat ≤ sizeLine∧∀ p H',Same H H'->H' p=some (.tup (List.replicate k.toNat xs).flatten)->Q (.ref p) H':=by
 constructor
 ·rintro ⟨a',k',xs,h1,h2,h⟩; cases h1; cases h2; exact ⟨xs,h⟩
 ·rintro ⟨xs,h⟩; exact ⟨a,k,xs,rfl,rfl,h⟩
end
section
variable {X:Cx}
def intsV (lo:Int) (n:Nat):List V:=(List.range n).map fun k => .int (lo + (k:Nat))
def tLR (ta:TA):TE:=fun σ H Q => ta σ H fun vs H1 => ∃ j:Int,vs=[.int j]∧0 ≤ j∧j ≤ 1000000∧∀ p,H1 p=none->Q (.ref p) (upd H1 p (.lst (intsV 0 j.toNat)))
end
theorem uq8 {ta:TA}{σ:St}{H:Hp}{Q:VK}:(tLR ta σ H Q)=(ta σ H fun vs H1 => ∃ j:Int,vs=[.int j]∧0 ≤ j∧j ≤ 1000000∧∀ p,H1 p=none->Q (.ref p) (upd H1 p (.lst (intsV 0 j.toNat)))):=rfl
end L2
namespace L2
open PySem
section
variable {p:Addr}{fv:St}{tt:TT}{te:TE}{Q:VK}{H1:Hp}{K:PySem.W.Frag}
end
end L2
namespace L2
open PySem PySem.Spec PyProof.Rows
section
variable {X:Cx}{pins:List (Addr × Obj)}{σ:St}{H1:Hp}{s3:Shared}{x x2:Str}{fx:List Str}{fr:List Nat}{scope:Scope}{cl:List (Str × Addr)}{fp:List Addr}
theorem qqa (I:Inv X pins σ H1 s3) (hkind:scope.kind=.function) (hcl:∀ y c,cl.lookup y=some c->X.env.cells.lookup y=some c)
  (F:Frees X (relabel scope X.env) cl fx fr) (hfx:((relabel scope X.env).names.all fun p => if (p.2 == .cell || p.2 == .free) then fx.contains p.1 else true)=true)
  (ffp:∀ b ∈ fp,FpOk X pins H1 b) (flt:∀ b ∈ fp,b < s3.heap.objs.size):(compCx X (x :: x2 :: fx) scope cl s3 H1 fp).Ok where
 mod:=I.ok.mod
 kind:=hkind
 glob:=I.ok.glob
 blt:=I.ok.blt
 above:=Nat.le_refl _
 inj:=fun y z c h1 h2 => I.ok.inj y z c (hcl y c h1) (hcl z c h2)
 has:=fun y h => by
  have h:(relabel scope X.env).names.lookup y=some .cell ∨ (relabel scope X.env).names.lookup y=some .free:=h
  have key:y ∈ fx:=by
   rcases h with h | h
   ·have q:=List.all_eq_true.mp hfx _ (PySem.mem_of_lookup h)
    simpa using q
   ·have q:=List.all_eq_true.mp hfx _ (PySem.mem_of_lookup h)
    simpa using q
  obtain ⟨k1,k2⟩:=F.mem y key
  obtain ⟨c,e⟩:=I.ok.has y (.inl k1)
  exact ⟨c,k2.trans e⟩
 cab:=fun y c h => by cases (show false=true from h)
 hd:=I.ok.hd
 frames:=I.ok.frames
 stk:=.inl rfl
 exf:=fun b hb => ⟨Nat.ne_of_lt (flt b hb),fun y c e => (ffp b hb).2.2.2.2.1 y c (hcl y c e)⟩
 bs:=I.bs
 bsz:=Nat.le_trans I.ok.bsz I.sz
 noex:=fun b o e hb => by
  rcases (ffp b hb).2.2.2.1 with z | z
  ·exact I.ok.noex b o e z
  ·exact absurd (Nat.lt_of_lt_of_le (Heap.lt_size (I.ok.bs b o e).1) z) (Nat.lt_irrefl _)
 exfs:=fun b hb z => by
  rcases List.mem_cons.mp (I.stkSub b z) with q | q
  ·exact (ffp b hb).2.1 q
  ·exact (ffp b hb).2.2.1 q
 funs:=I.stack
 frf:=I.stkFree
theorem lqK (I:Inv X pins σ H1 s3) (hkind:scope.kind=.function) (hcl:∀ y c,cl.lookup y=some c->X.env.cells.lookup y=some c)
  (F:Frees X (relabel scope X.env) cl fx fr) (hfx:((relabel scope X.env).names.all fun p => if (p.2 == .cell || p.2 == .free) then fx.contains p.1 else true)=true)
  (ffp:∀ b ∈ fp,FpOk X pins H1 b) (flt:∀ b ∈ fp,b < s3.heap.objs.size) {h1:Heap}{t:Nat}{m:Str->Option Value} (hn:h1.Ns s3.heap.objs.size m)
  (keep:∀ b u,s3.heap.get? b=some u->h1.get? b=some u):Inv (compCx X (x :: x2 :: fx) scope cl s3 H1 fp) [] (none :: none :: frV σ fr) H1 { s3 with heap:=h1,toks:=t }:=by
 refine ⟨qqa I hkind hcl F hfx ffp flt,rfl,I.bare,Un.kept keep,⟨m,hn,fun i y v e1 e2 e3 => ?_⟩,fun y c e => ?_,I.hok.fresh (Nat.le_refl _),fun y c e => I.freeC y c (hcl y c e),fun p hp => absurd (show p ∈ ([]:List (Addr × Obj)) from hp) (by simp),I.hok.kept keep,?_⟩
 ·cases i with
  | zero => simp at e2
  | succ j =>
   cases j with
   | zero => simp at e2
   | succ j =>
    obtain ⟨i0,k1,k2,k3,k4,k5⟩:=F.at (σ:=σ) j y v (by simpa [compCx] using e1) (by simpa using e2)
    obtain ⟨m0,hn0,hl0⟩:=I.loc
    obtain ⟨u,r,l⟩:=hl0 i0 y v k1 k2 (.inr (.inl k3))
    refine ⟨u,r,?_⟩
    rcases l with ⟨z,_⟩ | ⟨_,c,e,o,ho,hd⟩
    ·rw [k3] at z; cases z
    ·exact .inr ⟨.inl k4,c,k5.trans e,o,keep c o ho,hd⟩
 ·obtain ⟨v,o,ho,hd⟩:=I.cell y c (hcl y c e)
  exact ⟨v,o,keep c o ho,hd⟩
 ·show (none :: none :: frV σ fr).length=(x :: x2 :: fx).length
  simp [frV,F.len]
end
def CompI2 (K:PySem.W.Frag) (J:It) (p:Addr) (fv:St) (tt:TT) (te:TE) (Q:VK) (H1:Hp):Prop :=
 ∃ W:Nat->Nat->List V->Hp->Prop,(∃ m,W 0 m [] (upd H1 p (.lst [])))∧∀ i m ys H2,W i m ys H2->H2 p=some (.lst ys) ∧
  ((J.stop i H2∧Q (.ref p) H2) ∨ (J.go i H2∧ys.length < sizeLine∧∀ z H3,J.yld i H2 z H3->∃ a x y,z=.ref a∧SqT K H3 a [x,y]∧tt (some x :: some y :: fv) H3 fun b H4 =>
   if b=true then te (some x :: some y :: fv) H4 fun y H5 => H5 p=some (.lst ys)∧∃ m',m' < m∧W (i + 1) m' (ys ++ [y]) (upd H5 p (.lst (ys ++ [y])))
   else ∃ m',m' < m∧W (i + 1) m' ys H4))
def tComp2 (K:PySem.W.Frag) (wi:TI) (fr:List Nat) (tt:TT) (te:TE):TE:=fun σ H Q => wi σ H fun J H1 => ∀ p,H1 p=none->CompI2 K J p (frV σ fr) tt te Q H1
section
variable {X:Cx}{elt iter:Expr}{x x2:Str}{px px2 ptx pos:Pos}{kx:Nat}{ifs:List Expr}{scope:Scope}{cl:List (Str × Addr)}{fx:List Str}{fr:List Nat}{wi:TI}{tt:TT}{te:TE}
theorem hqK {pins:List (Addr × Obj)}{σ:St}{H3:Hp}{s3:Shared}{it p:Addr}{fp:List Addr}{tn:Nat->Heap->Prop}{J:It}{Q:VK}{W:Nat->Nat->List V->Hp->Prop}{m0 t:Nat}{h₁:Heap}{m:Str->Option Value}{RR:Result->Shared->Prop}
  (hc:X.calm=true) (hkind:scope.kind=.function) (hx:scope.names.lookup x=some .local) (hx2:scope.names.lookup x2=some .local) (hnd:(x :: x2 :: fx).Nodup)
  (hcl:∀ y c,cl.lookup y=some c->X.env.cells.lookup y=some c) (F:Frees X (relabel scope X.env) cl fx fr)
  (hfx:((relabel scope X.env).names.all fun p => if (p.2 == .cell || p.2 == .free) then fx.contains p.1 else true)=true)
  (ht:∀ s H fp,PF (compCx X (x :: x2 :: fx) scope cl s H fp) ifs tt) (he:∀ s H fp,PE (compCx X (x :: x2 :: fx) scope cl s H fp) elt te)
  (I3:Inv X pins σ H3 s3) (T:Turn X.prog X.w X.K (.Tuple [.Name x px,.Name x2 px2] kx ptx) J fp it tn) (st3:tn 0 s3.heap) (ffp:∀ b ∈ fp,FpOk X pins H3 b) (flt3:∀ b ∈ fp,b < s3.heap.objs.size)
  (w0:W 0 m0 [] H3) (turn:∀ i m ys H2,W i m ys H2->H2 p=some (.lst ys) ∧
   ((J.stop i H2∧Q (.ref p) H2) ∨ (J.go i H2∧ys.length < sizeLine∧∀ z H3,J.yld i H2 z H3->∃ a x y,z=.ref a∧SqT X.K H3 a [x,y]∧tt (some x :: some y :: frV σ fr) H3 fun b H4 =>
    if b=true then te (some x :: some y :: frV σ fr) H4 fun y H5 => H5 p=some (.lst ys)∧∃ m',m' < m∧W (i + 1) m' (ys ++ [y]) (upd H5 p (.lst (ys ++ [y])))
    else ∃ m',m' < m∧W (i + 1) m' ys H4)))
  (hns:h₁.Ns s3.heap.objs.size m) (keep1:∀ b u,s3.heap.get? b=some u->h₁.get? b=some u)
  (fin:∀ s6 H5 o o2,Inv (compCx X (x :: x2 :: fx) scope cl s3 H3 fp) [] (o :: o2 :: frV σ fr) H5 s6->Q (.ref p) H5->RR (.ok .next) s6) :
  codeAny (model X.prog X.w) X.A (.compStart (.ListComp elt [⟨.Tuple [.Name x px,.Name x2 px2] kx ptx,iter,ifs,0⟩] scope pos) 0 (.ref it) (.ref p) (compEnvC scope cl s3.heap.objs.size X.env))
   RR { s3 with heap:=h₁,toks:=t }:=by
 have I4:=lqK (x:=x) (x2:=x2) (t:=t) I3 hkind hcl F hfx ffp flt3 hns keep1
 have st4:tn 0 h₁:=T.keep _ _ _ st3 fun b hb o e => keep1 b o e
 have fp0:∀ b ∈ fp,H3 b=none:=fun b hb => (ffp b hb).1
 have hcal:(compCx X (x :: x2 :: fx) scope cl s3 H3 fp).calm=true:=hc
 have stat:∀ {H':Hp},(∀ b ∈ fp,H' b=none)->∀ b ∈ fp,FpOk (compCx X (x :: x2 :: fx) scope cl s3 H3 fp) [] H' b:=fun {H'} hn b hb => by
  obtain ⟨f0,f1,f2,f3,f4,f5⟩:=ffp b hb
  exact ⟨hn b hb,Nat.ne_of_lt (flt3 b hb),I4.ok.exfs b hb,.inl hb,fun y c e => f4 y c (hcl y c e),fun q hq => absurd (show q ∈ ([]:List (Addr × Obj)) from hq) (by simp)⟩
 have hxl:(relabel scope X.env).names.lookup x=some .local:=lookup_relabel_local hx
 have hxl2:(relabel scope X.env).names.lookup x2=some .local:=lookup_relabel_local hx2
 have pg:PG (compCx X (x :: x2 :: fx) scope cl s3 H3 fp) (.Tuple [.Name x px,.Name x2 px2] kx ptx) (gTup X.K 2 (gCons (gName 0) (gCons (gName 1) gNil))):=rqe hcal (aqS (aqE (i:=0) hnd rfl (.inl hxl) (.inr hxl)) (aqS (aqE (i:=1) hnd rfl (.inl hxl2) (.inr hxl2)) eqp))
 have loop:codeAny (model X.prog X.w) X.A (.compLoop (.ListComp elt [⟨.Tuple [.Name x px,.Name x2 px2] kx ptx,iter,ifs,0⟩] scope pos) 0 (.ref it) (.ref p) (compEnvC scope cl s3.heap.objs.size X.env))
    RR { s3 with heap:=h₁,toks:=t }:=by
  refine gq3 (fun n s' => ∃ i ys H' o o2,Inv (compCx X (x :: x2 :: fx) scope cl s3 H3 fp) [] (o :: o2 :: frV σ fr) H' s'∧tn i s'.heap∧(∀ b ∈ fp,H' b=none)∧W i n ys H') ?_ m0 ⟨0,[],_,none,none,I4,st4,fp0,w0⟩
  rintro n s5 ⟨i,ys,H5,o,o2,I5,st5,fr5,w5⟩
  obtain ⟨hp5,alt⟩:=turn i n ys H5 w5
  rcases alt with ⟨stop,qn⟩ | ⟨go,hlen,step⟩
  ·refine thn (T.done (compCx X (x :: x2 :: fx) scope cl s3 H3 fp) rfl rfl rfl hcal i [] s5 (o :: o2 :: frV σ fr) H5 _ I5 (stat fr5) st5 stop) fun r s6 W' => ?_
   obtain ⟨hr,I6⟩:=W'
   subst hr
   exact fin s6 H5 o o2 I6 qn
  ·refine thn (T.item (compCx X (x :: x2 :: fx) scope cl s3 H3 fp) rfl rfl rfl hcal i [] s5 (o :: o2 :: frV σ fr) H5 _ I5 (stat fr5) st5 go) fun r s6 W' => ?_
   obtain ⟨u,hr,h6⟩:=W'
   subst hr
   refine thn h6 fun _ s7 W' => ?_
   obtain ⟨y7,H7,I7,r7,yl7,st7,fr7⟩:=W'
   have I7':=I7.pinned (stat fr7) (T.obj _ _ st7)
   have back:∀ {σ':St}{H':Hp}{s':Shared},Inv (compCx X (x :: x2 :: fx) scope cl s3 H3 fp) ([] ++ pinsAt fp s7.heap) σ' H' s'->tn (i + 1) s'.heap∧∀ b ∈ fp,H' b=none:=fun {σ' H' s'} I' => by
    refine ⟨T.keep _ _ _ st7 fun b hb o e => (I'.pin (b,o) (List.mem_append_right _ (List.mem_append_right _ (cqR hb e)))).1,fun b hb => ?_⟩
    obtain ⟨o,e,d⟩:=T.obj _ _ st7 b hb
    exact (I'.pin (b,o) (List.mem_append_right _ (List.mem_append_right _ (cqR hb e)))).2.1
   obtain ⟨a7,z1,z2,e7,q7,step7⟩:=step y7 _ yl7
   subst e7
   refine thn (pg _ s7 _ H7 (.ref a7) u (fun σ' H' => σ'=some z1 :: some z2 :: frV σ fr∧H'=H7) I7' r7 ⟨a7,[z1,z2],rfl,q7,rfl,z1,[z2],rfl,z2,[],rfl,rfl,rfl,rfl⟩) fun _ s8 W' => ?_
   obtain ⟨σ8,H8,I8,e8,e8'⟩:=W'
   subst e8 e8'
   refine thn (ht s3 H3 fp _ s8 _ _ _ I8 step7) fun b s9 W' => ?_
   obtain ⟨H9,I9,q9⟩:=W'
   cases b with
   | false =>
    rw [if_neg Bool.false_ne_true] at q9 ⊢
    obtain ⟨m',hm,w9⟩:=q9
    exact ⟨m',hm,i + 1,ys,H9,some z1,some z2,I9.unpinned,(back I9).1,(back I9).2,w9⟩
   | true =>
    rw [if_pos rfl] at q9 ⊢
    refine thn (he s3 H3 fp _ s9 _ H9 _ I9 q9) fun u10 s10 W' => ?_
    obtain ⟨y10,H10,I10,r10,hp10,m',hm,w10⟩:=W'
    refine thn (bqe _ s10 _ H10 (.ref p) [y10] (.ref p) [u10] (fun _ H' => H'=upd H10 p (.lst (ys ++ [y10]))) I10 rfl (.cons r10 .nil) ⟨p,ys,y10,rfl,rfl,hp10,hlen,rfl⟩) fun _ s11 W' => ?_
    obtain ⟨_,H11,I11,_,e11⟩:=W'
    subst e11
    exact ⟨m',hm,i + 1,ys ++ [y10],_,some z1,some z2,I11.unpinned,(back I11).1,(back I11).2,w10⟩
 exact codeAny_compStart_list loop (T.self _ 0 _ _ _ st4 loop)
theorem qqn (hc:X.calm=true) (hclos:closureFor scope X.env=pure cl) (hcell:∀ y ∈ scope.names,y.2 ≠ .cell) (hkind:scope.kind=.function)
  (hnames:∀ y ∈ scope.names,y.2=.local->scope.names.lookup y.1=some .local) (hx:scope.names.lookup x=some .local) (hx2:scope.names.lookup x2=some .local) (hnd:(x :: x2 :: fx).Nodup)
  (hk:(cl.all fun q => fx.contains q.1)=true) (F:Frees X (relabel scope X.env) cl fx fr)
  (hfx:((relabel scope X.env).names.all fun p => if (p.2 == .cell || p.2 == .free) then fx.contains p.1 else true)=true)
  (hi:PI X (.Tuple [.Name x px,.Name x2 px2] kx ptx) iter wi) (ht:∀ s H fp,PF (compCx X (x :: x2 :: fx) scope cl s H fp) ifs tt) (he:∀ s H fp,PE (compCx X (x :: x2 :: fx) scope cl s H fp) elt te)
  (hs:∀ x,foldedSetIterable iter X.env x=pure x:=by intro _; rfl) :
  PE X (.ListComp elt [⟨.Tuple [.Name x px,.Name x2 px2] kx ptx,iter,ifs,0⟩] scope pos) (tComp2 X.K wi fr tt te):=by
 intro pins s σ H Q I h
 have hcl:∀ y c,cl.lookup y=some c->X.env.cells.lookup y=some c:=fun y c e => by
  have q:=List.all_eq_true.mp hk _ (PySem.mem_of_lookup e)
  rw [<- (F.mem y (by simpa using q)).2]
  exact e
 rw [eval_ListComp]
 refine wpAny_comprehension_free (use:=none) rfl hs hclos hkind hnames ?_
 refine thn (hi pins s σ H _ I h) fun v s1 h1 => thn h1 fun itv s2 h2 => ?_
 obtain ⟨it,fp,tn,J,H2,e,I2,T,st2,f2,q2⟩:=h2
 subst e
 have hp0:H2 s2.heap.objs.size=none:=I2.hok.fresh (Nat.le_refl _)
 obtain ⟨W,⟨m0,w0⟩,turn⟩:=q2 _ hp0
 have flt:∀ b ∈ fp,b < s2.heap.objs.size:=fun b hb => by
  obtain ⟨o,e,_⟩:=T.obj _ _ st2 b hb
  exact Heap.lt_size e
 refine wpAny_newObj_type (wpAny_newFunctionEnv hcell (by intro y hy; simp at hy) (fun h₁ hns₁ hsb₁ => ?_) hkind)
 dsimp only at hns₁ hsb₁ ⊢
 have hlay:∀ b u,s2.heap.get? b=some u->(s2.heap.push { cls:=.type "list",dict:=none,data:=.seq ([]:List Value).toArray }).get? b=some u:=fun b u e => Heap.get?_push_of_some _ e
 have hnew:(s2.heap.push { cls:=.type "list",dict:=none,data:=.seq ([]:List Value).toArray }).get? s2.heap.objs.size=some { cls:=.type "list",dict:=none,data:=.seq ([]:List Value).toArray }:=Heap.get?_push_size _ rfl
 have hsz:(s2.heap.push { cls:=.type "list",dict:=none,data:=.seq ([]:List Value).toArray }).objs.size=s2.heap.objs.size + 1:=Heap.size_push _ _
 generalize hHH:s2.heap.push { cls:=.type "list",dict:=none,data:=.seq ([]:List Value).toArray }=HH at hns₁ hsb₁ hlay hnew hsz ⊢
 have I3:Inv X pins σ (upd H2 s2.heap.objs.size (.lst [])) { s2 with heap:=HH,toks:=s2.toks } :=
  I2.laid (t':=s2.toks) (o:=.lst []) hlay (Nat.le_refl _) ⟨Nat.zero_le _,[],0,.nil,hnew⟩
 have ffp:∀ b ∈ fp,FpOk X pins (upd H2 s2.heap.objs.size (.lst [])) b:=fun b hb => by
  obtain ⟨f0,fr'⟩:=f2 b hb
  exact ⟨by rw [aqq (Nat.ne_of_lt (flt b hb))]; exact f0,fr'⟩
 have keep1:∀ b u,HH.get? b=some u->h₁.get? b=some u:=fun b u e => hsb₁.extBut b u (Nat.ne_of_lt (Heap.lt_size e)) (Heap.get?_push_of_some _ e)
 exact hqK (s3:={ s2 with heap:=HH,toks:=s2.toks }) hc hkind hx hx2 hnd hcl F hfx ht he I3 T (T.keep _ _ _ st2 fun b hb o e => hlay b o e) ffp (fun b hb => by show b < HH.objs.size; rw [hsz]; exact Nat.lt_succ_of_lt (flt b hb)) w0 turn hns₁ keep1 fun s6 H5 o o2 I6 qn => by
  obtain ⟨m,hn6,_⟩:=id I6.loc
  exact ⟨m,hn6,fun h' sb => ⟨.ref _,H5,fqQ I3 I6 ffp sb,rfl,qn⟩⟩
theorem oq2 {K:PySem.W.Frag} (h:X.K=K) (hc:X.calm=true) (hclos:closureFor scope X.env=pure cl) (hcell:∀ y ∈ scope.names,y.2 ≠ .cell) (hkind:scope.kind=.function)
  (hnames:∀ y ∈ scope.names,y.2=.local->scope.names.lookup y.1=some .local) (hx:scope.names.lookup x=some .local) (hx2:scope.names.lookup x2=some .local) (hnd:(x :: x2 :: fx).Nodup)
  (hk:(cl.all fun q => fx.contains q.1)=true) (F:Frees X (relabel scope X.env) cl fx fr)
  (hfx:((relabel scope X.env).names.all fun p => if (p.2 == .cell || p.2 == .free) then fx.contains p.1 else true)=true)
  (hi:PI X (.Tuple [.Name x px,.Name x2 px2] kx ptx) iter wi) (ht:∀ s H fp,PF (compCx X (x :: x2 :: fx) scope cl s H fp) ifs tt) (he:∀ s H fp,PE (compCx X (x :: x2 :: fx) scope cl s H fp) elt te)
  (hs:∀ x,foldedSetIterable iter X.env x=pure x:=by intro _; rfl) :
  PE X (.ListComp elt [⟨.Tuple [.Name x px,.Name x2 px2] kx ptx,iter,ifs,0⟩] scope pos) (tComp2 K wi fr tt te):=by
 subst h; exact qqn hc hclos hcell hkind hnames hx hx2 hnd hk F hfx hi ht he hs
theorem pqz {K:PySem.W.Frag}{i:Nat}{y:Str}{py spos:Pos} (hN:X.N.Nodup) (hiN:X.N[i]?=some y) (hy:X.env.scope.names.lookup y=some .local)
  (h:X.K=K) (hc:X.calm=true) (hclos:closureFor scope X.env=pure cl) (hcell:∀ y ∈ scope.names,y.2 ≠ .cell) (hkind:scope.kind=.function)
  (hnames:∀ y ∈ scope.names,y.2=.local->scope.names.lookup y.1=some .local) (hx:scope.names.lookup x=some .local) (hx2:scope.names.lookup x2=some .local) (hnd:(x :: x2 :: fx).Nodup)
  (hk:(cl.all fun q => fx.contains q.1)=true) (F:Frees X (relabel scope X.env) cl fx fr)
  (hfx:((relabel scope X.env).names.all fun p => if (p.2 == .cell || p.2 == .free) then fx.contains p.1 else true)=true)
  (hi:PI X (.Tuple [.Name x px,.Name x2 px2] kx ptx) iter wi) (ht:∀ s H fp,PF (compCx X (x :: x2 :: fx) scope cl s H fp) ifs tt) (he:∀ s H fp,PE (compCx X (x :: x2 :: fx) scope cl s H fp) elt te)
  (hs:∀ x,foldedSetIterable iter X.env x=pure x:=by intro _; rfl) (hsw:swapsWith (.ListComp elt [⟨.Tuple [.Name x px,.Name x2 px2] kx ptx,iter,ifs,0⟩] scope pos) (some (.Name y py)) spos.line X.env=pure true:=by rfl) :
  PS X (.Assign [.Name y py] (.ListComp elt [⟨.Tuple [.Name x px,.Name x2 px2] kx ptx,iter,ifs,0⟩] scope pos) spos) (tAsg (tComp2 K wi fr tt te) (gName i)):=by
 subst h
 intro pins s σ H D I h
 have hcl:∀ y c,cl.lookup y=some c->X.env.cells.lookup y=some c:=fun y c e => by
  have q:=List.all_eq_true.mp hk _ (PySem.mem_of_lookup e)
  rw [<- (F.mem y (by simpa using q)).2]
  exact e
 rw [exec_Assign_Name_used _ _ _ _ hsw]
 refine wpAny_bind (wpAny_standAt (wpAny_bind ?_))
 show wpAny _ X.A (do let _ <- comprehension (.ListComp elt [⟨.Tuple [.Name x px,.Name x2 px2] kx ptx,iter,ifs,0⟩] scope pos) scope X.env _ (newList []) false (eval iter X.env) (some (assign (.Name y py) X.env))) _ _ s
 refine wpAny_bind (wpAny_mono (wpAny_comprehension_free (use:=some (assign (.Name y py) X.env)) (Q:=fun _ s' => SP X pins D .next s') rfl hs hclos hkind hnames ?_) (fun _ s' hq => wpAny_pure (wpAny_pure hq)) fun _ _ e => e)
 refine thn (hi pins s σ H _ I h) fun v s1 h1 => thn h1 fun itv s2 h2 => ?_
 obtain ⟨it,fp,tn,J,H2,e,I2,T,st2,f2,q2⟩:=h2
 subst e
 have hp0:H2 s2.heap.objs.size=none:=I2.hok.fresh (Nat.le_refl _)
 obtain ⟨W,⟨m0,w0⟩,turn⟩:=q2 _ hp0
 have flt:∀ b ∈ fp,b < s2.heap.objs.size:=fun b hb => by
  obtain ⟨o,e,_⟩:=T.obj _ _ st2 b hb
  exact Heap.lt_size e
 refine wpAny_newObj_type (wpAny_newFunctionEnv hcell (by intro y hy; simp at hy) (fun h₁ hns₁ hsb₁ => ?_) hkind)
 dsimp only at hns₁ hsb₁ ⊢
 have hlay:∀ b u,s2.heap.get? b=some u->(s2.heap.push { cls:=.type "list",dict:=none,data:=.seq ([]:List Value).toArray }).get? b=some u:=fun b u e => Heap.get?_push_of_some _ e
 have hnew:(s2.heap.push { cls:=.type "list",dict:=none,data:=.seq ([]:List Value).toArray }).get? s2.heap.objs.size=some { cls:=.type "list",dict:=none,data:=.seq ([]:List Value).toArray }:=Heap.get?_push_size _ rfl
 have hsz:(s2.heap.push { cls:=.type "list",dict:=none,data:=.seq ([]:List Value).toArray }).objs.size=s2.heap.objs.size + 1:=Heap.size_push _ _
 generalize hHH:s2.heap.push { cls:=.type "list",dict:=none,data:=.seq ([]:List Value).toArray }=HH at hns₁ hsb₁ hlay hnew hsz ⊢
 have I3:Inv X pins σ (upd H2 s2.heap.objs.size (.lst [])) { s2 with heap:=HH,toks:=s2.toks } :=
  I2.laid (t':=s2.toks) (o:=.lst []) hlay (Nat.le_refl _) ⟨Nat.zero_le _,[],0,.nil,hnew⟩
 have ffp:∀ b ∈ fp,FpOk X pins (upd H2 s2.heap.objs.size (.lst [])) b:=fun b hb => by
  obtain ⟨f0,fr'⟩:=f2 b hb
  exact ⟨by rw [aqq (Nat.ne_of_lt (flt b hb))]; exact f0,fr'⟩
 have keep1:∀ b u,HH.get? b=some u->h₁.get? b=some u:=fun b u e => hsb₁.extBut b u (Nat.ne_of_lt (Heap.lt_size e)) (Heap.get?_push_of_some _ e)
 exact hqK (Q:=fun x H1 => gName i x σ H1 D.nx) (s3:={ s2 with heap:=HH,toks:=s2.toks }) hc hkind hx hx2 hnd hcl F hfx ht he I3 T (T.keep _ _ _ st2 fun b hb o e => hlay b o e) ffp (fun b hb => by show b < HH.objs.size; rw [hsz]; exact Nat.lt_succ_of_lt (flt b hb)) w0 turn hns₁ keep1 fun s6 H5 o o2 I6 qn => by
  have nC:H5 HH.objs.size=none:=I6.free
  have I7:Inv X pins σ H5 s6:=fqQ (h':=s6.heap) I3 I6 ffp ⟨rfl,fun _ _ => rfl⟩
  obtain ⟨f0,f1,f2,f3,f4,f5⟩:=I3.fpOk (H':=H5) (b:=HH.objs.size) (Nat.le_refl _) nC
  obtain ⟨m,hn6,_⟩:=id I6.loc
  show wpAny _ X.A (assign (.Name y py) X.env (.ref _)) _ _ s6
  refine wpAny_assign_Name (iqa I7 hN hiN (.inl hy) (v:=.ref _) rfl (fun s8 I8 sbx => ?_) (.inr hy))
  obtain ⟨a,sb,ha⟩:=sbx
  have hne:HH.objs.size ≠ a:=by
   rcases ha with rfl | ha
   ·exact f1
   ·exact fun z => f4 y a ha z.symm
  refine ⟨m,hn6.sameBut sb hne,fun h' sb' => ?_⟩
  exact ⟨_,H5,I8.turned (t':=s8.toks) (it:=HH.objs.size) (fun b o hb e => sb'.extBut b o hb e) f0 f1 f3 f4 f5,qn⟩
end
section
variable {p:Addr}{fv:St}{te:TE}{Q:VK}{H1:Hp}{K:PySem.W.Frag}
theorem oq8 {tl:TE}{tt:TT}{fr:List Nat}{σ:St}{H:Hp}:(tComp2 K (iTup K tl) fr tt te σ H Q)=(tl σ H fun x H1 => ∃ a,x=.ref a∧(∃ xs,SqT K H1 a xs)∧∀ p,H1 p=none->CompI2 K (Itt K a) p (frV σ fr) tt te Q H1):=rfl
end
section
variable {X:Cx}
def rFind:V->List V->Hp->VK->Prop:=fun x vs H Q => match x,vs with
 | .str z,[.str y] => Q (.int (Txt.find z y)) H
 | _,_ => False
theorem sqU {z y:Str}{H:Hp}{Q:VK}:(rFind (.str z) [.str y] H Q)=(Q (.int (Txt.find z y)) H):=rfl
end
end L2
namespace Wm
open PySem L2
theorem sq9 (s:Stp) (L:List Stp):inV (sV s) (L.map sV)=decide (s ∈ L):=by
 have e:∀ a:Stp,eqV (sV a) (sV s)=decide (s=a):=fun a => by
  show ((⟨a.toArray⟩:Str) == ⟨s.toArray⟩)=decide (s=a)
  rw [Bool.eq_iff_iff,beq_iff_eq,decide_eq_true_eq,dqT]
  exact ⟨Eq.symm,Eq.symm⟩
 unfold inV
 rw [Bool.eq_iff_iff,decide_eq_true_eq,List.any_eq_true]
 constructor
 ·rintro ⟨x,hx,h⟩
  obtain ⟨a,ha,rfl⟩:=List.mem_map.mp hx
  rw [e,decide_eq_true_eq] at h
  rw [h]; exact ha
 ·intro h
  exact ⟨sV s,List.mem_map.mpr ⟨s,h,rfl⟩,by rw [e]; simp⟩
end Wm
namespace Wm
end Wm
namespace L2
open PySem
theorem tqk {l:Addr}{H:Hp}{Q:VK}{i:Int}:rPopAt (.ref l) [.int i] H Q ↔ ∃ xs k y,H l=some (.lst xs)∧-(2 ^ 63) ≤ i∧i < 2 ^ 63∧seqIndex? i xs.length=some k∧xs[k]?=some y∧Q y (upd H l (.lst (xs.eraseIdx k))) :=
 ⟨fun ⟨_,xs,_,k,y,h1,h2,h⟩ => by cases h1; cases h2; exact ⟨xs,k,y,h⟩,fun ⟨xs,k,y,h⟩ => ⟨_,xs,_,k,y,rfl,rfl,h⟩⟩
end L2
namespace L2
open PySem PySem.Spec PySem.W PyProof.Rows
abbrev vErr:List Value:=[.type "ValueError",.type "Exception",.type "BaseException",.type "object"]
abbrev vNew:String := "ValueError.__new__"
theorem excObj {K:Frag}{h:Heap}{C:Addr}{bb:List Value}{nid:String} (kin:K.In h) (q:excIn K C bb nid=true) :
  ∃ tl N nm qn bs hd sn sub ab col dd k0 k1 k2 k3 k5,h.get? C=some (excClassObj nm qn C N bs tl hd sn sub ab col dd k0 k1 k2 k3 k5 nid)∧(∃ mN,h.Ns N mN∧mN "__init__" = none)∧OwnTail h bb tl:=by
 unfold excIn at q
 split at q
 ·next dd cd sl lk =>
  split at q
  ·next C2 tl a0 a1 a2 a3 nn a5 hmro hsl =>
   simp only [beq_iff_eq,Bool.and_eq_true,Bool.not_eq_true'] at q
   obtain ⟨⟨⟨⟨⟨e1,e2⟩,e3⟩,e4⟩,e5⟩,e6⟩:=q
   subst e1 e2
   obtain ⟨nm,bs,mro,ns,qn,hd,sn,sub,ab,col,del⟩:=cd
   simp only at hmro e3 e5 e6
   subst hmro e3
   obtain rfl:sl=#[a0,a1,a2,a3,some (.builtin nn),a5]:=by
    obtain ⟨l⟩:=sl
    exact congrArg Array.mk hsl
   exact ⟨tl,ns,nm,qn,bs,hd,sn,sub,ab,col,dd,a0,a1,a2,a3,a5,kin _ _ lk,⟨_,.of_isNs (isNs_of_in kin e5),nsMap_none_of_in kin e5 e6⟩,tail_of_in kin e4⟩
  ·cases q
 ·cases q
def Raises (X:Cx) (E:XK):Prop:=∀ (pins:List (Addr × Obj)) (σ:St) (H:Hp) (s:Shared) (h':Heap) (e C:Addr),Inv X pins σ H s->Heap.MadeExcOf s.heap h' e (.ref C) []->E (.ref C) none H->X.xe (.ref e) { s with heap:=h' }
def tRaise (E:XK) (C:Addr):TS:=fun _ _ H => E (.ref C) none H
theorem mqp {E:XK}{C:Addr}{D:Ends}{σ:St}{H:Hp}:(tRaise E C D σ H)=(E (.ref C) none H):=rfl
theorem pqt {X:Cx}{x:Str}{C:Addr}{E:XK}{np cpos pos:Pos} (hx:Raises X E) (hg:Gl X x) (hm:X.mg x=some (.ref C)) (hc:excIn X.K C vErr vNew=true) (hcalm:X.calm=true) (hdb:(x == ("__debug__" : Str))=false:=by decide) :
  PS X (.Raise (some (.Call (.Name x np) [] [] cpos)) none pos) (tRaise E C):=by
 intro pins s σ H D I h
 obtain ⟨tl,N,nm,qn,bs,hd',sn,sub,ab,col,dd,k0,k1,k2,k3,k5,hC,⟨mN,hN,hni⟩,T⟩:=excObj I.kIn hc
 refine wpAny_Raise_call_subU (C:=C) (nm:=nm) (q:=qn) (N:=N) (bs:=bs) (bm:=tl) (hdct:=hd') (sn:=sn) (sub:=sub) (ab:=ab) (col:=col) (dd:=dd) (k0:=k0) (k1:=k1) (k2:=k2) (k3:=k3) (k5:=k5)
  F.excBase_ValueError (by decide) F.excBase_ValueError (mN:=mN) (T.hasType F.excBase_ValueError.hasBase) (I.ok.hd hcalm) rfl hni (eqL I hg hm ⟨rfl,?_⟩ hdb)
 exact evalArgs_empty ⟨rfl,Nat.zero_le _,hC,hN,T,fun h' e hm' => hx pins σ H s h' e C I hm' h⟩
theorem ObjOk.ex {P:Program}{w:World}{H:Hp}{h:Heap}{a:Addr}{o:HO} (x:ObjOk P w H h a o):∃ u,h.get? a=some u:=by
 cases o with
 | lst xs => obtain ⟨_,_,_,_,e⟩:=x; exact ⟨_,e⟩
 | tup xs => obtain ⟨_,_,_,_,e,_⟩:=x; exact ⟨_,e⟩
 | dK kvs => obtain ⟨_,_,_,_,_,_,_,e,_⟩:=x; exact ⟨_,e⟩
 | dT kvs => obtain ⟨_,_,_,_,_,_,_,e,_⟩:=x; exact ⟨_,e⟩
 | set S n => obtain ⟨_,_,_,_,e,_⟩:=x; exact ⟨_,e⟩
 | ins C dx fs => obtain ⟨_,_,_,e,_⟩:=x; exact ⟨_,e⟩
 | own y => exact x
 | xd fs => obtain ⟨_,⟨_,_,_,e,_⟩,_⟩:=x; exact ⟨_,e⟩
 | rng lo hi => obtain ⟨_,_,_,e⟩:=x; exact ⟨_,e⟩
 | frz ob u => exact ⟨_,x.1⟩
 | tbl ps => exact ⟨_,x⟩
 | met f y => exact ⟨_,x⟩
 | ext φ => exact x.2.1
structure Flown (P:Program) (w:World) (base:Heap) (outer:List Env) (H:Hp) (s:Shared) (a t C:Addr) (B:Heap) (H':Hp) (s':Shared):Prop where
 os:s'.os=s.os
 bare:AllBare s'.gens
 st:base.StaysIn B
 fly:Heap.FlyingW B outer a (.ref C) (.ref t) s'.heap
 hok:HOk P w H' B
 un:Un (frs outer) [] H H' s.heap s'.heap
 kb:∀ b o,s.heap.get? b=some o->H b=none->b ∉ frs outer->B.get? b=some o
 thB:∀ b o,s.heap.get? b=some o->b ∉ frs outer->∃ o',B.get? b=some o'
def CXE (P:Program) (w:World) (base:Heap):CXT:=fun outer H s E e s' => ∃ (a t C:Addr) (B:Heap) (H':Hp),e=.ref a∧E (.ref C) none H'∧Flown P w base outer H s a t C B H' s'
theorem eqd {env:Env}{L:Addr}{outer:List Env} (hf:env.frame=some L) {b:Addr}:b ∈ frs (env :: outer) ↔ b=L ∨ b ∈ frs outer:=by
 unfold frs
 rw [List.filterMap_cons,hf]
 exact List.mem_cons
section
variable {P:Program}{w:World}{K:Frag}{mg:Str->Option Value}{base:Heap}{N:List Str}{qual:Str}{scope:Scope}{f:Addr}{cd:Value}{A:Around}{outer:List Env}{s:Shared}{H:Hp}{E:XK}
theorem oqD:Raises (cxOf (CXE P w base) P w K mg base N qual scope f cd A outer s H E) E:=by
 intro pins σ H1 s1 h' e C I hm hE
 have hf:(envOfC qual scope s.heap.objs.size f cd).frame=some s.heap.objs.size:=rfl
 have stk:s1.heap.FunFrames base (envOfC qual scope s.heap.objs.size f cd :: outer):=I.stack
 have stf:∀ b ∈ frs (envOfC qual scope s.heap.objs.size f cd :: outer),H1 b=none:=I.stkFree
 have ib:Un (frs outer) [] H H1 s.heap s1.heap:=I.base
 have ne:∀ b o,s.heap.get? b=some o->b ∉ frs outer->b ∉ frs (envOfC qual scope s.heap.objs.size f cd :: outer):=fun b o q n z => by
  rcases (eqd hf).mp z with z | z
  ·exact absurd (Heap.lt_size q) (by rw [z]; exact Nat.lt_irrefl _)
  ·exact n z
 show wpAny (model P w) (A.deeper (envOfC qual scope s.heap.objs.size f cd)) (leaving (envOfC qual scope s.heap.objs.size f cd) (.ref e)) _ _ _
 refine wpAny_leaves_madeW (base:=hideAll s1.heap (frs (envOfC qual scope s.heap.objs.size f cd :: outer))) (h:=s1.heap) I.ok.frames hf (fun b o q => of_hideAll _ q)
  (funFrames_hide stk fun env he b hb => List.mem_filterMap.mpr ⟨env,he,hb⟩) hm fun h2 t x1 x2 x3 x4 => ?_
 have keepB:∀ b o,s.heap.get? b=some o->H b=none->b ∉ frs outer->(hideAll s1.heap (frs (envOfC qual scope s.heap.objs.size f cd :: outer))).get? b=some o:=fun b o q n nf =>
  hideAll_get _ (ib.keep b o q n nf (by simp)) (ne b o q nf)
 have thB:∀ b o,s.heap.get? b=some o->b ∉ frs outer->∃ o',(hideAll s1.heap (frs (envOfC qual scope s.heap.objs.size f cd :: outer))).get? b=some o':=fun b o q nf => by
  obtain ⟨o',z⟩:=ib.there b o q (by simp)
  exact ⟨o',hideAll_get _ z (ne b o q nf)⟩
 have slotF:∀ b,b ∈ frs outer->∀ o,s1.heap.get? b=some o->∃ sl,h2.get? b=some { o with slots:=sl }:=fun b hb o q => by
  obtain ⟨_,o2,q2,nd⟩:=stk.mem ((eqd hf).mpr (.inr hb))
  rw [q] at q2
  cases q2
  exact x4 b o (hm.keeps b o q) nd
 refine ⟨e,t,C,_,H1,rfl,hE,⟨I.os,I.bare,fun b o q => ?_,x1,fun a u q => ?_,⟨fun b o q n nf _ => x1.1 b o (keepB b o q n nf),fun b o q n hb _ => ?_,ib.free,fun b o q _ => ?_,ib.tups,ib.frzs,ib.tbls⟩,keepB,thB⟩⟩
 ·exact hideAll_get _ (I.bk b o q) fun z => by rw [(stk.mem z).1] at q; cases q
 ·refine (I.hok a u q).stay (fun b v hb z => hideAll_get _ z fun m => ?_) (fun _ z => z) fun _ _ z => z
  have:=stf b m
  rcases hb with rfl | hb
  ·rw [q] at this; cases this
  ·rw [hb] at this; cases this
 ·obtain ⟨sl,z⟩:=ib.slot b o q n hb (by simp)
  obtain ⟨sl',z'⟩:=slotF b hb _ z
  exact ⟨sl',z'⟩
 ·by_cases hb:b ∈ frs outer
  ·obtain ⟨o',z⟩:=ib.there b o q (by simp)
   obtain ⟨sl',z'⟩:=slotF b hb _ z
   exact ⟨_,z'⟩
  ·obtain ⟨o',z⟩:=thB b o q hb
   exact ⟨o',x1.1 b o' z⟩
theorem oqk:Passes (CXE P w base) (cxOf (CXE P w base) P w K mg base N qual scope f cd A outer s H E) E:=by
 intro pins σ H1 s1 e s2 I hq
 obtain ⟨a,t,C,B,H2,rfl,hE,W⟩:=hq
 have hf:(envOfC qual scope s.heap.objs.size f cd).frame=some s.heap.objs.size:=rfl
 have ib:Un (frs outer) [] H H1 s.heap s1.heap:=I.base
 have W:Flown P w base (envOfC qual scope s.heap.objs.size f cd :: outer) H1 s1 a t C B H2 s2:=W
 have ne:∀ b o,s.heap.get? b=some o->b ∉ frs outer->b ∉ frs (envOfC qual scope s.heap.objs.size f cd :: outer):=fun b o q n z => by
  rcases (eqd hf).mp z with z | z
  ·exact absurd (Heap.lt_size q) (by rw [z]; exact Nat.lt_irrefl _)
  ·exact n z
 show wpAny (model P w) (A.deeper (envOfC qual scope s.heap.objs.size f cd)) (leaving (envOfC qual scope s.heap.objs.size f cd) (.ref a)) _ _ _
 refine wpAny_leaves_onW I.ok.frames hf W.fly fun h3 x1 x2 => ?_
 have keepB:∀ b o,s.heap.get? b=some o->H b=none->b ∉ frs outer->B.get? b=some o:=fun b o q n nf =>
  W.kb b o (ib.keep b o q n nf (by simp)) (ib.free b o q n (by simp)) (ne b o q nf)
 have thB:∀ b o,s.heap.get? b=some o->b ∉ frs outer->∃ o',B.get? b=some o':=fun b o q nf => by
  obtain ⟨o',z⟩:=ib.there b o q (by simp)
  exact W.thB b o' z (ne b o q nf)
 have slotF:∀ b,b ∈ frs outer->∀ o,s2.heap.get? b=some o->∃ sl,h3.get? b=some { o with slots:=sl }:=fun b hb o q => by
  obtain ⟨_,o2,q2,nd⟩:=W.fly.2.2.1.mem ((eqd hf).mpr (.inr hb))
  rw [q] at q2
  cases q2
  exact x2 b o q nd
 refine ⟨a,t,C,B,H2,rfl,hE,⟨W.os.trans I.os,W.bare,W.st,x1,W.hok,⟨fun b o q n nf _ => x1.1 b o (keepB b o q n nf),fun b o q n hb _ => ?_,fun b o q n _ => ?_,fun b o q _ => ?_,fun b xs q => W.un.tups b xs (ib.tups b xs q),fun b o u q => W.un.frzs b o u (ib.frzs b o u q),fun b ps q => ?_⟩,keepB,thB⟩⟩
 ·obtain ⟨sl,z⟩:=ib.slot b o q n hb (by simp)
  obtain ⟨sl1,z1⟩:=W.un.slot b _ z (ib.free b o q n (by simp)) ((eqd hf).mpr (.inr hb)) (by simp)
  obtain ⟨sl',z'⟩:=slotF b hb _ z1
  exact ⟨sl',z'⟩
 ·obtain ⟨o',z⟩:=ib.there b o q (by simp)
  exact W.un.free b o' z (ib.free b o q n (by simp)) (by simp)
 ·by_cases hb:b ∈ frs outer
  ·obtain ⟨o',z⟩:=ib.there b o q (by simp)
   obtain ⟨o'',z1⟩:=W.un.there b o' z (by simp)
   obtain ⟨sl',z'⟩:=slotF b hb _ z1
   exact ⟨_,z'⟩
  ·obtain ⟨o',z⟩:=thB b o q hb
   exact ⟨o',x1.1 b o' z⟩
 ·obtain ⟨m1,z⟩:=ib.tbls b ps q
  obtain ⟨m2,z2⟩:=W.un.tbls b _ z
  exact ⟨m1 ++ m2,by rw [z2,Array.append_assoc]⟩
end
def exO (a C:Addr):HO:=.ext fun h => ∃ o,h.get? a=some o∧o.cls=.ref C
abbrev Cx.handling (X:Cx) (e:Value):Cx:={ X with A:=X.A.mark (some e),calm:=false,xe:=fun _ _ => False }
section
variable {X:Cx}{pins:List (Addr × Obj)}{σ:St}{H H1 H2:Hp}{s s1 s2:Shared}
theorem Inv.handling (e:Value) (I:Inv X pins σ H s):Inv (X.handling e) pins σ H s :=
 ⟨⟨I.ok.mod,I.ok.kind,I.ok.glob,I.ok.blt,I.ok.above,I.ok.inj,I.ok.has,I.ok.cab,(fun z => by cases z),I.ok.frames,I.ok.stk,I.ok.exf,I.ok.bs,I.ok.bsz,I.ok.noex,I.ok.exfs,I.ok.funs,I.ok.frf⟩,I.os,I.bare,I.base,I.loc,I.cell,I.free,I.freeC,I.pin,I.hok,I.len⟩
theorem Inv.handled {e:Value} (J:X.Ok) (I:Inv (X.handling e) pins σ H s):Inv X pins σ H s:=⟨J,I.os,I.bare,I.base,I.loc,I.cell,I.free,I.freeC,I.pin,I.hok,I.len⟩
theorem Flown.new {P:Program}{w:World}{base B h5:Heap}{outer:List Env}{a t C:Addr}{a0:Value} (W:Flown P w base outer H1 s1 a t C B H2 s2):H2 a=none:=by
 cases q:H2 a with
 | none => rfl
 | some u =>
  obtain ⟨o,z⟩:=(W.hok a u q).ex
  rw [W.fly.2.1] at z
  cases z
theorem Inv.caught {a t C:Addr}{B h5:Heap}{a0:Value} (I:Inv X pins σ H1 s1) (W:Flown X.prog X.w X.base X.stack H1 s1 a t C B H2 s2) (f5:Heap.FlyingW B X.stack a (.ref C) a0 h5) (sm:s2.heap.UpToSlots h5) :
  Inv X pins σ (upd H2 a (exO a C)) { s2 with heap:=h5 }:=by
 have hn:H2 a=none:=W.new (h5:=h5) (a0:=a0)
 obtain ⟨oe,vs,T,oT,ts,he,_,hd,_⟩:=W.fly.2.2.2
 have fr:∀ b ∈ frs X.stack,∀ o,s2.heap.get? b=some o->b ≠ a∧∃ sl,h5.get? b=some { o with slots:=sl }:=fun b hb o q => by
  obtain ⟨_,o2,q2,nd⟩:=W.fly.2.2.1.mem hb
  rw [q] at q2
  cases q2
  refine ⟨fun z => ?_,sm b o q nd⟩
  rw [z,he] at q
  cases q
  exact nd _ hd
 have na:∀ b o,s1.heap.get? b=some o->b ≠ a:=fun b o q => by
  by_cases hb:b ∈ frs X.stack
  ·obtain ⟨o',z⟩:=W.un.there b o q (by simp)
   exact (fr b hb o' z).1
  ·obtain ⟨o',z⟩:=W.thB b o q hb
   rintro rfl
   rw [W.fly.2.1] at z
   cases z
 refine I.call' (H':=upd H2 a (exO a C)) (s':={ s2 with heap:=h5 }) (ch:=[]) W.os ⟨fun b o q n nf _ => f5.1 b o (W.kb b o q n nf),fun b o q n hb _ => ?_,fun b o q n _ => ?_,fun b o q _ => ?_,fun b xs q => ?_,fun b o u q => ?_,fun b ps q => ?_⟩ (fun b u q => ?_) W.bare (fun b z => by cases z)
 ·obtain ⟨sl,z⟩:=W.un.slot b o q n hb (by simp)
  obtain ⟨_,sl',z'⟩:=fr b hb _ z
  exact ⟨sl',z'⟩
 ·rw [aqq (na b o q)]
  exact W.un.free b o q n (by simp)
 ·by_cases hb:b ∈ frs X.stack
  ·obtain ⟨o',z⟩:=W.un.there b o q (by simp)
   obtain ⟨_,sl',z'⟩:=fr b hb _ z
   exact ⟨_,z'⟩
  ·obtain ⟨o',z⟩:=W.thB b o q hb
   exact ⟨o',f5.1 b o' z⟩
 ·have z:=W.un.tups b xs q
  rw [aqq (aql z hn)]
  exact z
 ·have z:=W.un.frzs b o u q
  rw [aqq (aql z hn)]
  exact z
 ·obtain ⟨m,z⟩:=W.un.tbls b ps q
  exact ⟨m,by rw [aqq (aql z hn)]; exact z⟩
 ·by_cases hb:b=a
  ·subst hb
   rw [aqk] at q
   cases q
   obtain ⟨ob,hob,hoc⟩:=f5.there
   exact ⟨⟨ob,hob,hoc⟩,⟨ob,hob⟩,fun h1 h2 ⟨o,z,c⟩ k => ⟨o,k o z,c⟩⟩
  ·rw [aqq hb] at q
   refine (W.hok b u q).stay (fun c v _ z => f5.1 c v z) (fun c z => ?_) fun c xs z => ?_
   ·rw [aqq (aql z hn)]; exact z
   ·rw [aqq (aql z hn)]; exact z
theorem Inv.goes {M:Model}{A:Around}{E:Value->Shared->Prop}{i:Nat}{n:Str}{pos:Pos}{Q:Unit->Shared->Prop} (I:Inv X pins σ H s) (nd:X.N.Nodup) (hi:X.N[i]?=some n) (hl:X.env.scope.names.lookup n=some .local)
  (h:∀ s',Inv X pins (σ.set i none) H s'->Q () s'):wpAny M A (do bindName X.env n .none; unbindBehindTheSuite X.env n pos) Q E s:=by
 obtain ⟨m,hn,hlk⟩:=id I.loc
 have hcls:(X.env.scope.kind == .class || (X.env.scope.kind == .module && X.env.locals != X.env.globals))=false:=by rw [I.ok.kind]; rfl
 have hiσ:i < σ.length:=by rw [I.len]; exact (List.getElem?_eq_some_iff.mp hi).1
 refine wpAny_nameGoes_keeps hl hn hcls fun h' v hn' hs => h _ ?_
 have neL:∀ b o,X.s₀.heap.get? b=some o->b ≠ X.env.locals:=fun b o e => Nat.ne_of_lt (Nat.lt_of_lt_of_le (Heap.lt_size e) I.ok.above)
 refine ⟨I.ok,I.os,I.bare,⟨fun b o e z hb hx => (hs.2 b (neL b o e)).trans (I.base.keep b o e z hb hx),fun b o e z hb hx => ?_,I.base.free,fun b o e hx => ?_,I.base.tups,I.base.frzs,I.base.tbls⟩,⟨_,hn',fun j y v' e1 e2 e3 => ?_⟩,fun y c e => ?_,I.free,I.freeC,fun p hp => ?_,fun b ob e => ?_,by simpa using I.len⟩
 ·obtain ⟨sl,e1⟩:=I.base.slot b o e z hb hx
  exact ⟨sl,(hs.2 b (neL b o e)).trans e1⟩
 ·obtain ⟨o',e1⟩:=I.base.there b o e hx
  exact ⟨o',(hs.2 b (neL b o e)).trans e1⟩
 ·by_cases hj:j=i
  ·subst hj
   rw [List.getElem?_set_self hiσ] at e2
   cases e2
  ·rw [List.getElem?_set_ne (Ne.symm hj)] at e2
   obtain ⟨u',r',q⟩:=hlk j y v' e1 e2 e3
   refine ⟨u',r',?_⟩
   rcases q with ⟨k,e⟩ | ⟨k,c,e,z⟩
   ·refine .inl ⟨k,?_⟩
    have:y ≠ n:=fun e => hj (jqC nd e1 (e ▸ hi))
    simp [this,e]
   ·exact .inr ⟨k,c,e,z.sameBut hs (I.cne y c e)⟩
 ·obtain ⟨w',z⟩:=I.cell y c e
  exact ⟨w',z.sameBut hs (I.cne y c e)⟩
 ·obtain ⟨e,n1,ne,nf,d⟩:=I.pin p hp
  exact ⟨(hs.2 p.1 ne).trans e,n1,ne,nf,d⟩
 ·refine (I.hok b ob e).stay (fun c w' hc q => (hs.2 c ?_).trans q) (fun _ q => q) fun _ _ q => q
  rintro rfl
  rcases hc with rfl | hc
  ·rw [I.free] at e; cases e
  ·rw [I.free] at hc; cases hc
end
structure Catch (K:Frag) (W:Addr):Prop where
 ty:typeIn K (.ref W)=some (.type "type")
 ex:subIn K (.ref W) (.type "BaseException")=some true
 cl:(clsIn K W).isSome=true
theorem hqP {K:Frag}{M:Model}{h:Heap}{a W C:Addr}{o:Obj} (kin:K.In h) (ha:h.get? a=some o) (hc:o.cls=.ref C) (cw:Catch K W) (hs:subIn K (.ref C) (.ref W)=some true):Looks M h (excMatches (.ref a) (.ref W)) true:=by
 have L1:=looks_typeIn (M:=M) kin cw.ty
 have L2:=looks_subIn (M:=M) kin cw.ex
 have L3:=looks_subIn (M:=M) kin hs
 have L4:Looks M h (typeOf (.ref a)) (.ref C):=hc ▸ (Looks.ld ha).andThen .now
 have L5:Looks M h (isInstance (.ref W) (.type "tuple")) false:=L1.andThen (Looks.of_pure tc_notTuple)
 have L6:Looks M h (isType (.ref W)) true:=by
  have z:=cw.cl
  unfold clsIn at z
  split at z
  ·next lk =>
   intro A' Q' E' s' k q
   unfold isType loadHead
   exact wpAny_bind (wpAny_loadPart (k _ _ (kin _ _ lk)) (wpAny_pure q))
  ·cases z
 intro A Q E s k q
 unfold excMatches isExcClass
 refine wpAny_bind (L5 A _ E s k ?_)
 simp only [Bool.false_eq_true,if_false]
 refine wpAny_bind (wpAny_pure ?_)
 refine wpAny_bind ?_
 rw [List.forIn_cons]
 refine wpAny_bind (wpAny_bind (wpAny_bind (L6 A _ E s k ?_)))
 simp only [if_true]
 refine L2 A _ E s k ?_
 simp only [Bool.not_true,Bool.false_eq_true,if_false]
 refine wpAny_pure ?_
 dsimp only
 rw [List.forIn_nil]
 refine wpAny_pure ?_
 refine wpAny_bind (L4 A _ E s k ?_)
 refine wpAny_bind ?_
 rw [List.forIn_cons]
 refine wpAny_bind (wpAny_bind (L3 A _ E s k ?_))
 simp only [if_true]
 refine wpAny_pure ?_
 dsimp only
 exact wpAny_pure (wpAny_pure q)
def tTry (K:Frag) (sp:Sp) (t:TA) (W:Addr) (i:Nat) (tb:TS):TS:=fun D σ H => t σ H fun vs H1 => sp vs H1 (fun _ H2 => D.nx σ H2) fun cls _ H2 =>
 ∃ C,cls=.ref C∧subIn K (.ref C) (.ref W)=some true∧∀ a,H2 a=none->tb { nx:=fun σ' H' => D.nx (σ'.set i none) H',rt:=D.rt } (σ.set i (some (.ref a))) (upd H2 a (exO a C))
end L2
namespace L2
open PySem PySem.Spec PySem.W PySem.Calls PyProof.Rows PySem.Builtin PySem.Builtin.ObjectAttr PySem.Builtin.Getset_descriptor
structure ExLook (K:Frag) (C:Addr):Prop where
 ga:findIn K (.ref C) "__getattribute__" = some (some (.builtin "BaseException.__getattribute__"))
 cl:findIn K (.ref C) "__class__" = some (some (.builtin "object.__class__"))
 na:findIn K (.ref C) "__getattr__" = some none
 mo:mroIn K C (.type "object")=some true
 mb:mroIn K C (.type "BaseException")=some true
 is:(clsIn K C).isSome=true
section
variable {prog:Program}{w:World}{A:Around}{E:Value->Shared->Prop}{hh:Heap}{g:Array GenState}{dr:Drawn}{t:Nat}{os:OsState}{K:Frag}{a C:Addr}{o:Obj}
theorem mqv {M:Model} (hx:hh.get? a=some o) (hc:o.cls=.ref C):Looks M hh (typeOf (.ref a)) (.ref C):=hc ▸ (Looks.ld hx).andThen .now
theorem kqS {M:Model}{nv:Value}{Q:Unit->Shared->Prop} (kin:K.In hh) (hx:hh.get? a=some o) (hc:o.cls=.ref C) (L:ExLook K C) (hq:Q () ⟨hh,g,dr,t,os⟩) :
  wpAny M A (checkBuiltinCall "BaseException.__getattribute__" ⟨[.ref a,nv],[]⟩) Q E ⟨hh,g,dr,t,os⟩:=by
 have lt:=mqv (M:=M) hx hc; have lb:=looks_mroIn (M:=M) kin L.mb
 have z1:builtinKind "BaseException.__getattribute__" = some .slot:=by decide +kernel
 have z2:splitId "BaseException.__getattribute__" = some ("BaseException","__getattribute__"):=by decide +kernel
 have z3:=F.args_bexc_ga (.ref a) nv
 simp only [checkBuiltinCall,z1,z2]; refine wpAny_bind ?_; unfold isInstance
 repeat (first | with_reducible refine Looks.at lt ?_ | with_reducible refine Looks.at lb ?_ | wp_step)
 exact hq
end
inductive KitAns (K:Frag) (H:Hp) (C:Addr):V->Bool->Prop
 | cls {W:Addr}{b:Bool}:kitOne K (.ref C) (.ref W)=some b->KitAns K H C (.ref W) b
 | ty {T:String}{b:Bool}:kitOne K (.ref C) (.type T)=some b->KitAns K H C (.ty T) b
 | tup {p:Addr}{cs:List Addr}{b:Bool}:H p=some (.tup (cs.map V.ref))->kitAny K (.ref C) (cs.map Value.ref)=some b->KitAns K H C (.ref p) b
def rIsE (K:Frag):List V->Hp->VK->Prop:=fun vs H Q => ∃ a c C b,vs=[.ref a,c]∧H a=some (exO a C)∧ExLook K C∧KitAns K H C c b∧Q (.bl b) H
end L2
namespace L2
open PySem PySem.W
theorem tqm {K:Frag}{a:Addr}{c:V}{H:Hp}{Q:VK}:rIsE K [.ref a,c] H Q ↔ ∃ C b,H a=some (exO a C)∧ExLook K C∧KitAns K H C c b∧Q (.bl b) H :=
 ⟨fun ⟨_,_,C,b,e,h⟩ => by cases e; exact ⟨C,b,h⟩,fun ⟨C,b,h⟩ => ⟨a,c,C,b,rfl,h⟩⟩
theorem uqf {K:Frag}{sp:Sp}{t:TA}{W:Addr}{i:Nat}{tb:TS}{D:Ends}{σ:St}{H:Hp}:tTry K sp t W i tb D σ H ↔ t σ H fun vs H1 => sp vs H1 (fun _ H2 => D.nx σ H2) fun cls _ H2 =>
 ∃ C,cls=.ref C∧subIn K (.ref C) (.ref W)=some true∧∀ a,H2 a=none->tb { nx:=fun σ' H' => D.nx (σ'.set i none) H',rt:=D.rt } (σ.set i (some (.ref a))) (upd H2 a (exO a C)):=Iff.rfl
end L2
namespace L2
open PySem PySem.Spec PyProof.Rows
section
variable {X:Cx}
def rStarts:V->List V->Hp->VK->Prop:=fun x vs H Q => ∃ z y,∃ i:Nat,x=.str z∧vs=[.str y,.int (i:Int)]∧Q (.bl (decide (i + y.length ≤ z.length) && Builtin.Str.subAt z y i)) H
end
section
variable {X:Cx}
def rPart:V->List V->Hp->VK->Prop:=fun x vs H Q => ∃ z y,x=.str z∧vs=[.str y]∧(y.length == 0)=false∧z.length ≤ sizeLine ∧
 ∀ p,H p=none->Q (.ref p) (upd H p (.tup [.str (Txt.partition z y).1,.str (Txt.partition z y).2.1,.str (Txt.partition z y).2.2]))
end
section
variable {X:Cx}
def rIntS:List V->Hp->VK->Prop:=fun xs H Q => ∃ z n,xs=[.str z]∧z.length ≤ 640∧PySem.intText? z=some n∧Q (.int n) H
theorem oqc:CallR X (.type "int") rIntS:=by
 intro pins s σ H xs us Q I r h
 obtain ⟨z,n,rfl,hz,hn,q⟩:=h
 obtain ⟨u,rfl,t,rfl⟩:=vals1 r
 exact PySem.W.KIN.call_text hn hz ⟨.int n,H,I.tok _,⟨_,rfl⟩,q⟩
theorem sqh {z:Str}{H:Hp}{Q:VK}:rIntS [.str z] H Q ↔ ∃ n,z.length ≤ 640∧PySem.intText? z=some n∧Q (.int n) H :=
 ⟨fun ⟨_,n,e,h⟩ => by cases e; exact ⟨n,h⟩,fun ⟨n,h⟩ => ⟨z,n,rfl,h⟩⟩
theorem tqG {z y:Str}{i:Nat}{H:Hp}{Q:VK}:rStarts (.str z) [.str y,.int (i:Int)] H Q ↔ Q (.bl (decide (i + y.length ≤ z.length) && Builtin.Str.subAt z y i)) H :=
 ⟨fun ⟨_,_,j,e1,e2,h⟩ => by
  cases e1
  injection e2 with e2 e3
  cases e2
  injection e3 with e3
  injection e3 with e3
  obtain rfl:i=j:=by omega
  exact h,fun h => ⟨z,y,i,rfl,rfl,h⟩⟩
theorem uqx {z y:Str}{H:Hp}{Q:VK}:rPart (.str z) [.str y] H Q ↔ (y.length == 0)=false∧z.length ≤ sizeLine∧∀ p,H p=none->Q (.ref p) (upd H p (.tup [.str (Txt.partition z y).1,.str (Txt.partition z y).2.1,.str (Txt.partition z y).2.2])) :=
 ⟨fun ⟨_,_,e1,e2,h⟩ => by cases e1; cases e2; exact h,fun h => ⟨z,y,rfl,rfl,h⟩⟩
theorem uqF {K:PySem.W.Frag}{ta:TE}{f:Str}{σ:St}{H:Hp}{Q:VK}:(tFld K ta f σ H Q)=(ta σ H fun x H1 => ∃ a C dx fs v,x=.ref a∧H1 a=some (.ins C dx fs)∧Cls K C∧NoAttr K C f∧fs.lookup f=some v∧Q v H1):=rfl
theorem sqe {K:PySem.W.Frag}{ta tv:TE}{f:Str}{D:Ends}{σ:St}{H:Hp}:(sFld K ta tv f D σ H)=(tv σ H fun y H1 => ta σ H1 fun x H2 => ∃ a C dx fs,x=.ref a∧H2 a=some (.ins C dx fs)∧Cls K C∧NoAttr K C f∧fs.length < 1000∧D.nx σ (upd H2 a (.ins C dx (putF f y fs)))):=rfl
theorem sq6 {C:Addr}{m:Str}{sp:Sp}{dvs:List V}{E:XK}{ta:TE}{t:TA}{σ:St}{H:Hp}{Q:VK}:(tMeth C m sp dvs E ta t σ H Q)=(ta σ H fun x H1 => ∃ a dx fs,x=.ref a∧H1 a=some (.ins C dx fs)∧fs.lookup m=none∧t σ H1 fun vs H2 => sp (x :: (vs ++ dvs)) H2 Q E):=rfl
theorem sqQ {C:Addr}{sp:Sp}{dvs:List V}{E:XK}{t:TA}{σ:St}{H:Hp}{Q:VK}:(tMake C sp dvs E t σ H Q)=(t σ H fun vs H1 => ∀ x dx,H1 x=none->H1 dx=none->dx ≠ x->sp (.ref x :: (vs ++ dvs)) (upd (upd H1 dx (.own x)) x (.ins C dx [])) (fun v H2 => v=.non∧Q (.ref x) H2) E):=rfl
end
end L2
namespace Wm
open PySem L2
def ahead (t:List Nat):List Nat:=t.takeWhile fun c => decide (c ≠ 58)
inductive WrT (fr:List Nat):List Nat->List Nat->Prop
 | nil:WrT fr [] []
 | self {c:Nat}{s w:List Nat}:(isPl c=true ∨ c ∈ fr)->c ≠ 126->WrT fr s w->WrT fr (c :: s) (c :: w)
 | pair {c a b:Nat}{s w:List Nat}:sgO a b=some c->WrT fr s w->WrT fr (c :: s) (126 :: a :: b :: w)
section
variable {K:PySem.W.Frag}{H:Hp}{C p:Addr}{t:List Nat}{i:Nat}
end
def frS:List Nat:=(Str.ofString "!$'()*,;@&=+").cps.toList
def frQ:List Nat:=(Str.ofString "!$'()*,;@+/?:").cps.toList
def ValW (o:Option (List Nat)) (w:List Nat):Prop:=match o with
 | none => w=[]
 | some s => ∃ v,w=61 :: v∧WrT frQ s v
inductive TlW:List (List Nat)->Bool->List Nat->Prop
 | stop:TlW [] false []
 | ends:TlW [] true [47]
 | more {s w:List Nat}{ss:List (List Nat)}{e:Bool}{v:List Nat}:WrT frS s w->s ≠ []->TlW ss e v->TlW (s :: ss) e (47 :: (w ++ v))
inductive StpW:List (List Nat)->Bool->List Nat->Prop
 | none {e:Bool}:StpW [] e []
 | some {s w:List Nat}{ss:List (List Nat)}{e:Bool}{v:List Nat}:WrT frS s w->s ≠ []->TlW ss e v->StpW (s :: ss) e (w ++ v)
inductive PrsW:List (List Nat × Option (List Nat))->List Nat->Prop
 | nil:PrsW [] []
 | cons {n w v:List Nat}{o:Option (List Nat)}{ps:List (List Nat × Option (List Nat))}{r:List Nat}:WrT frQ n w->n ≠ []->ValW o v->PrsW ps r->PrsW ((n,o) :: ps) (38 :: (w ++ (v ++ r)))
def fgS:List Nat:=(Str.ofString "0123456789").cps.toList
theorem uqw {c:Nat}:c ∈ fgS ↔ 48 ≤ c∧c ≤ 57:=by
 rw [show fgS=[48,49,50,51,52,53,54,55,56,57] by decide +kernel]
 simp only [List.mem_cons,List.not_mem_nil,or_false]
 omega
def valD (ds:List Nat):Nat:=ds.foldl (fun a c => a * 10 + (c - 48)) 0
theorem eqH (ds:List Nat) (c:Nat):valD (ds ++ [c])=valD ds * 10 + (c - 48):=by unfold valD; rw [List.foldl_append]; rfl
theorem oqH:∀ (es ds:List Nat),valD ds ≤ valD (ds ++ es)
 | [],ds => by rw [List.append_nil]; exact Nat.le_refl _
 | c :: es,ds => by
  have h:=oqH es (ds ++ [c])
  rw [eqH,List.append_assoc] at h
  exact Nat.le_trans (by omega) h
theorem pqI {ds:List Nat}{c:Nat}{r:List Nat} (h:ds=c :: r) (hc:49 ≤ c):0 < valD ds:=by
 have:=oqH r [c]
 rw [h]
 have e:valD [c]=c - 48:=by unfold valD; simp
 show 0 < valD ([c] ++ r)
 omega
end Wm
namespace L2
open PySem
end L2
namespace Wm
open PySem L2
theorem iq6:∀ n:Nat,valD ((Nat.toDigits 10 n).map Char.toNat)=n∧(Nat.toDigits 10 n).map Char.toNat ≠ []∧(((Nat.toDigits 10 n).map Char.toNat).head?=some 48->n=0)
 | n => by
  by_cases h:n < 10
  ·rw [Nat.toDigits_of_lt_base h]
   have key:∀ n,n < 10->valD ([Nat.digitChar n].map Char.toNat)=n∧([Nat.digitChar n].map Char.toNat).head?=some (48 + n):=by decide +kernel
   obtain ⟨k1,k2⟩:=key n h
   refine ⟨k1,by simp,fun z => ?_⟩
   rw [k2] at z
   injection z with z
   omega
  ·have h':10 ≤ n:=by omega
   rw [Nat.toDigits_of_base_le (by decide) h',List.map_append]
   obtain ⟨i1,i2,i3⟩:=iq6 (n / 10)
   have key:∀ n,n < 10->([Nat.digitChar n].map Char.toNat)=[48 + n]:=by decide +kernel
   rw [key (n % 10) (by omega),eqH,i1]
   refine ⟨by omega,by simp,fun z => ?_⟩
   cases hh:(Nat.toDigits 10 (n / 10)).map Char.toNat with
   | nil => exact absurd hh i2
   | cons c r =>
    rw [hh] at z i3
    have:=i3 z
    omega
def GoodsT (n:Nat) (H:Hp) (vs:List V):Prop:=∀ v ∈ vs,∃ x:Ad,(x.Wf∧x.Tiny∧x.steps.length ≤ n)∧IsT H x.data v
theorem GoodsT.cons {n:Nat}{H:Hp}{v:V}{vs:List V}{x:Ad} (h1:x.Wf∧x.Tiny∧x.steps.length ≤ n) (h3:IsT H x.data v) (h:GoodsT n H vs):GoodsT n H (v :: vs):=fun u hu => by
 rcases List.mem_cons.mp hu with rfl | hu
 ·exact ⟨x,h1,h3⟩
 ·exact h u hu
theorem Ad.Tiny.local {x:Ad} (h:x.Tiny):({ x with scheme:=[],house:=none,door:=none }:Ad).Tiny:=⟨h.stp,h.que,h.mar,fun l e => by cases e⟩
end Wm
namespace L2
open PySem
end L2
namespace Wm
open PySem L2
def PrW (p:List Nat × Option (List Nat)) (w:List Nat):Prop:=∃ a v,w=a ++ v∧WrT frQ p.1 a∧ValW p.2 v
inductive PrWs:List (List Nat × Option (List Nat))->List (List Nat)->Prop
 | nil:PrWs [] []
 | cons {p:List Nat × Option (List Nat)}{w:List Nat}{ps:List (List Nat × Option (List Nat))}{ws:List (List Nat)}:PrW p w->PrWs ps ws->PrWs (p :: ps) (w :: ws)
inductive StWs:List (List Nat)->List (List Nat)->Prop
 | nil:StWs [] []
 | cons {s w:List Nat}{ss ws:List (List Nat)}:WrT frS s w->StWs ss ws->StWs (s :: ss) (w :: ws)
end Wm
namespace L2
open PySem PySem.Spec PyProof.Rows
section
variable {X:Cx}{pins:List (Addr × Obj)}{σ:St}{H:Hp}{s:Shared}{h':Heap}
theorem Inv.walked {t':Nat}{wr:List Addr}{T:Addr}{o:HO} (I:Inv X pins σ H s) (hf:∀ b ∈ wr,FpOk X pins H b) (k:∀ b u,b ∉ wr->s.heap.get? b=some u->h'.get? b=some u) (hT:s.heap.objs.size ≤ T)
  (new:ObjOk X.prog X.w (upd H T o) h' T o):Inv X pins σ (upd H T o) { s with heap:=h',toks:=t' }:=by
 have hn:H T=none:=I.hok.fresh hT
 have nw:∀ b u,H b=some u->b ∉ wr:=fun b u e z => by rw [(hf b z).1] at e; cases e
 refine I.step (g':=s.gens) (d':=s.drawn) (ch:=wr) (fun b hb => ?_) (fun b u _ _ hc e _ => k b u hc e) (fun b u _ _ hc e _ => ⟨u.slots,k b u hc e⟩) (fun b u _ q n => ?_)
  (fun b u hc e => ⟨u,k b u hc e⟩) (fun b xs q => ?_) (fun b u xs q => ?_) (fun b ps q => ?_) (fun m hm => ?_) (fun b u e => ?_) I.bare
 ·obtain ⟨f0,f1,f2,f3,f4,f5⟩:=hf b hb
  exact ⟨f3,f1,f4,f5⟩
 ·rw [aqq (Nat.ne_of_lt (Nat.lt_of_lt_of_le (Heap.lt_size q) hT))]; exact n
 ·rw [aqq (aql q hn)]; exact q
 ·rw [aqq (aql q hn)]; exact q
 ·exact ⟨#[],by rw [aqq (aql q hn),q]; simp⟩
 ·obtain ⟨u,es,ep,ho,r⟩:=hm
  refine ⟨u,es,ep,k _ u (fun z => ?_) ho,r⟩
  exact (hf _ z).2.1 rfl
 ·by_cases hb:b=T
  ·subst hb; rw [aqk] at e; cases e; exact new
  ·rw [aqq hb] at e
   refine (I.hok b u e).stay (fun c v hc q => k c v ?_ q) (fun c q => by rw [aqq (aql q hn)]; exact q) fun c xs q => by rw [aqq (aql q hn)]; exact q
   rcases hc with z | z
   ·rw [z]; exact nw b u e
   ·exact nw c _ z
theorem Inv.turnedL {t':Nat}{wr:List Addr} (I:Inv X pins σ H s) (hf:∀ b ∈ wr,FpOk X pins H b) (k:∀ b u,b ∉ wr->s.heap.get? b=some u->h'.get? b=some u):Inv X pins σ H { s with heap:=h',toks:=t' }:=by
 have nw:∀ b u,H b=some u->b ∉ wr:=fun b u e z => by rw [(hf b z).1] at e; cases e
 refine I.step (g':=s.gens) (d':=s.drawn) (ch:=wr) (fun b hb => ?_) (fun b u _ _ hc e _ => k b u hc e) (fun b u _ _ hc e _ => ⟨u.slots,k b u hc e⟩) (fun _ _ _ _ n => n)
  (fun b u hc e => ⟨u,k b u hc e⟩) (fun _ _ e => e) (fun _ _ _ e => e) (fun b ps e => ⟨#[],by rw [e]; simp⟩) (fun m hm => ?_) (fun b u e => ?_) I.bare
 ·obtain ⟨f0,f1,f2,f3,f4,f5⟩:=hf b hb
  exact ⟨f3,f1,f4,f5⟩
 ·obtain ⟨u,es,ep,ho,r⟩:=hm
  refine ⟨u,es,ep,k _ u (fun z => ?_) ho,r⟩
  exact (hf _ z).2.1 rfl
 ·refine (I.hok b u e).stay (fun c v hc q => k c v ?_ q) (fun _ q => q) fun _ _ q => q
  rcases hc with z | z
  ·rw [z]; exact nw b u e
  ·exact nw c _ z
end
def ItW (n:Nat) (ok:Hp->Prop) (pt:Nat->Hp->List V->Prop):It :=
 ⟨fun i H => i < n∧ok H,fun i H x H' => ∃ T xs,x=.ref T∧H T=none∧H'=upd H T (.tup xs)∧pt i H xs,fun i H => i=n∧ok H⟩
theorem iqv {P:Program}{w:World}{K:PySem.W.Frag}{elts:List Expr}{k:Nat}{pos:Pos}{I:Addr}{fp wr fq:List Addr}{n:Nat}{α:Type}{Pt:α->Nat->Array Value->Prop}{Sn:α->Nat->Heap->Prop}{Mid:α->Nat->Addr->Heap->Prop}{tn:Nat->Heap->Prop}{ok:Hp->Prop}{pt:Nat->Hp->List V->Prop}
  (hI:I ∈ fq) (hq:∀ b ∈ wr,b ∈ fq) (hW:∀ (A:Around) (a:α),A.handled=none->WalksT P w A I fp wr n (Pt a) (Sn a) (Mid a))
  (hself:∀ (A:Around) (i:Nat) (s:Shared) (Q:Value->Shared->Prop) (E:Value->Shared->Prop),tn i s.heap->Q (.ref I) s->wpAny (model P w) A (pyIter (.ref I)) Q E s)
  (hobj:∀ i h,tn i h->∀ b ∈ fq,∃ o,h.get? b=some o∧∀ v,o.data ≠ .cell v)
  (hkeep:∀ i h h',tn i h->(∀ b ∈ fq,∀ o,h.get? b=some o->h'.get? b=some o)->tn i h')
  (hin:∀ (X:Cx),X.prog=P->X.w=w->X.K=K->∀ (i:Nat) (pins:List (Addr × Obj)) (s:Shared) (σ:St) (H:Hp),Inv X pins σ H s->(∀ b ∈ fq,FpOk X pins H b)->tn i s.heap->ok H->∃ a,Sn a i s.heap∧∀ vals,Pt a i vals->∃ xs,xs.length ≤ sizeLine∧Vals xs vals.toList∧pt i H xs)
  (hout:∀ a i h,Sn a i h->tn i h) :
  Turn P w K (.Tuple elts k pos) (ItW n ok pt) fq I tn where
 mem:=hI
 obj:=hobj
 keep:=hkeep
 item:=by
  intro X hP hw hK hc i pins s σ H E J hf st hg
  obtain ⟨hi,hok⟩:=hg
  have hfw:∀ b ∈ wr,FpOk X pins H b:=fun b hb => hf b (hq b hb)
  obtain ⟨a,hst,hv⟩:=hin X hP hw hK i pins s σ H J hf st hok
  obtain ⟨hW1,hW2,hW3,hW4,hW5,hW6,hW7⟩:=hW X.A a (J.ok.hd hc)
  refine hW3 i s _ E hi hst fun T vals h1 tk hPt hT hTup hmid hk => ?_
  refine ⟨.ref T,rfl,?_⟩
  refine hW4 elts k pos i T _ _ E hmid fun h2 st2 hk2 => ?_
  obtain ⟨xs,hxl,hvs,hpt⟩:=hv vals hPt
  have hTw:T ∉ wr:=hW5 i T h1 hmid
  have hTn:H T=none:=J.hok.fresh hT
  have hk3:∀ b u,b ∉ wr->s.heap.get? b=some u->h2.get? b=some u:=fun b u hb e => hk2 b u hb (hk b u hb e)
  obtain ⟨o,ho,hcl,m,hd⟩:=hTup
  have hT2:IsTup h2 T vals.toList.toArray:=by
   refine ⟨o,hk2 T o hTw ho,hcl,m,?_⟩
   rw [hd]
  refine ⟨.ref T,upd H T (.tup xs),J.walked (t':=tk) hfw hk3 hT ⟨hxl,vals.toList,hvs,hT2⟩,rfl,⟨T,xs,rfl,hTn,rfl,hpt⟩,hout a _ _ st2,fun b hb => ?_⟩
  have:b ≠ T:=fun z => by
   obtain ⟨o,e,_⟩:=hobj i _ st b hb
   exact absurd (Heap.lt_size e) (by rw [z]; exact Nat.not_lt.mpr hT)
  rw [aqq this]
  exact (hf b hb).1
 done:=by
  intro X hP hw hK hc i pins s σ H E J hf st hg
  obtain ⟨hi,hok⟩:=hg
  subst hi
  have hfw:∀ b ∈ wr,FpOk X pins H b:=fun b hb => hf b (hq b hb)
  obtain ⟨a,hst,_⟩:=hin X hP hw hK i pins s σ H J hf st hok
  obtain ⟨hW1,hW2,hW3,hW4,hW5,hW6,hW7⟩:=hW X.A a (J.ok.hd hc)
  exact hW6 s _ E hst fun h1 tk hk => ⟨rfl,J.turnedL hfw hk⟩
 self:=hself
section
variable {σ:St}{H:Hp}{D:Ends}{g:TG}{tb:TS}
theorem hq8 {n:Nat}{ok:Hp->Prop}{pt:Nat->Hp->List V->Prop} (Pv:Nat->St->Hp->Prop) (h0:Pv 0 σ H) (hl:∀ i σ H,i ≤ n->Pv i σ H->ok H)
  (hs:∀ i σ H T xs,i < n->Pv i σ H->H T=none->pt i H xs->g (.ref T) σ (upd H T (.tup xs)) fun σ2 H2 => tb { D with nx:=Pv (i + 1),ct:=Pv (i + 1),bk:=D.nx } σ2 H2) (hd:∀ σ H,Pv n σ H->D.nx σ H):LoopI (ItW n ok pt) g tb D σ H:=by
 refine ⟨fun i m σ H => m=n - i∧i ≤ n∧Pv i σ H,⟨n,by simp,Nat.zero_le _,h0⟩,?_⟩
 rintro i m σ H ⟨rfl,hi,p⟩
 have hq:=hl i σ H hi p
 by_cases hlt:i < n
 ·refine .inr ⟨⟨hlt,hq⟩,Pv (i + 1),fun σ' H' p' => ⟨n - (i + 1),by omega,rfl,hlt,p'⟩,fun x H' y => ?_⟩
  obtain ⟨T,xs,rfl,hT,rfl,hp⟩:=y
  exact hs i σ _ T xs hlt p hT hp
 ·have e:i=n:=by omega
  subst e
  exact .inl ⟨⟨rfl,hq⟩,hd σ H p⟩
end
section
variable {prog:Program}{w:World}{A:Around}{E:Value->Shared->Prop}{s:Shared}
theorem oqn {it a:Addr}{i:Nat}{its:Array Value}{x:Value}{Q:Value->Shared->Prop} (hi:s.heap.IsTupleIter it a i) (ha:s.heap.IsTuple a its) (hx:its[i]?=some x)
  (q:∀ h',h'.IsTupleIter it a (i + 1)->Heap.SameBut it s.heap h'->Q x { s with heap:=h' }):wpAny (model prog w) A (Builtin.SmallTypes.nextOf (.ref it)) Q E s:=by
 obtain ⟨u,hu,hcu,hdu⟩:=id hi
 obtain ⟨v,hv,_,m,hdv⟩:=ha
 unfold Builtin.SmallTypes.nextOf
 refine wpAny_bind (wpAny_callSpecial?_slot (name:=Str.ofString "__next__") hi.typeIs F.slot_tuple_iterator_next (wpAny_call_entry F.slot_tuple_iterator_next hi.typeIs F.entry_tuple_iterator_next ?_ (F.args_tuple_iterator_next_1 _)))
 show wpAny _ _ (field (.ref it) 0 >>= _) _ _ _
 refine wpAny_bind (wpAny_field hu hdu (x:=.ref a) rfl ?_)
 show wpAny _ _ (if (Value.ref a == Value.none)=true then _ else _) _ _ _
 rw [if_neg (by exact Bool.false_ne_true)]
 show wpAny _ _ (field (.ref it) 1 >>= _) _ _ _
 refine wpAny_bind (wpAny_field hu hdu (x:=.int i 0) rfl ?_)
 show wpAny _ _ (seqItems? (.ref a) >>= _) _ _ _
 refine wpAny_bind (wpAny_seqItems hv hdv ?_)
 simp only [Int.toNat_natCast,hx]
 refine wpAny_bind (wpAny_setField hu hdu (by simp) (wpAny_pure ⟨x,rfl,wpAny_pure (q _ ⟨_,Heap.get?_update_self _ hu (Obj.isFreed_of_fields (Obj.data_mapFields hdu _)),(Obj.cls_mapFields ..).trans hcu,?_⟩ (Heap.SameBut.update ..))⟩))
 rw [Obj.data_mapFields hdu]
 simp [rawInt]
theorem oqd {it a:Addr}{i:Nat}{its:Array Value}{Q:Value->Shared->Prop} (hh:A.handled=none) (hi:s.heap.IsTupleIter it a i) (ha:s.heap.IsTuple a its) (hx:its[i]?=none)
  (q:∀ h' e,Heap.ExtBut it s.heap h'->(∃ o,h'.get? e=some o∧o.cls=.type "StopIteration")->E (.ref e) { s with heap:=h' }):wpAny (model prog w) A (Builtin.SmallTypes.nextOf (.ref it)) Q E s:=by
 obtain ⟨u,hu,hcu,hdu⟩:=id hi
 obtain ⟨v,hv,_,m,hdv⟩:=ha
 unfold Builtin.SmallTypes.nextOf
 refine wpAny_bind (wpAny_callSpecial?_slot (name:=Str.ofString "__next__") hi.typeIs F.slot_tuple_iterator_next (wpAny_call_entry F.slot_tuple_iterator_next hi.typeIs F.entry_tuple_iterator_next ?_ (F.args_tuple_iterator_next_1 _)))
 show wpAny _ _ (field (.ref it) 0 >>= _) _ _ _
 refine wpAny_bind (wpAny_field hu hdu (x:=.ref a) rfl ?_)
 show wpAny _ _ (if (Value.ref a == Value.none)=true then _ else _) _ _ _
 rw [if_neg (by exact Bool.false_ne_true)]
 show wpAny _ _ (field (.ref it) 1 >>= _) _ _ _
 refine wpAny_bind (wpAny_field hu hdu (x:=.int i 0) rfl ?_)
 show wpAny _ _ (seqItems? (.ref a) >>= _) _ _ _
 refine wpAny_bind (wpAny_seqItems hv hdv ?_)
 simp only [Int.toNat_natCast,hx]
 refine wpAny_bind (wpAny_rule (wpAny_bind (wpAny_setField hu hdu (by simp) ?_)))
 show wpAny _ A.in1 (newExc (.type "StopIteration") [] >>= _) _ _ _
 unfold newExc newTuple
 refine wpAny_bind (wpAny_bind (wpAny_newObj_type (wpAny_bind (m:=firstArgMember _ _) (wpAny_of_eq (a:=Value.none) (by first | rfl | (simp only [firstArgMember]; rfl)) (wpAny_newObj_type ?_ (by size_fits)))) (by size_fits)))
 unfold raiseNew
 refine wpAny_bind (wpAny_handled ?_)
 rw [show A.in1.handled=none from hh]
 exact wpAny_bind (wpAny_pure (wpAny_throw (q _ _ (((Heap.SameBut.update ..).extBut.push _).push _) ⟨_,Heap.get?_push_size _ rfl,rfl⟩)))
theorem hqX (hh:A.handled=none) (it a:Addr) (hne:a ≠ it) (its:Array Value):Draws prog w A it [it,a] its.size (fun i v => its[i]?=some v) (fun i h => h.IsTupleIter it a i∧h.IsTuple a its) where
 live:=fun _ _ st => let ⟨o,ho,_⟩:=st.1; ⟨o,ho⟩
 frame:=fun _ _ _ st hk => ⟨let ⟨o,ho,r⟩:=st.1; ⟨o,hk it (by simp) o ho,r⟩,let ⟨o,ho,r⟩:=st.2; ⟨o,hk a (by simp) o ho,r⟩⟩
 item:=fun i s Q E hi st hQ => oqn st.1 st.2 (x:=its[i]) (by simp [hi]) fun h' hit' hs' => hQ _ h' s.toks (by simp [hi]) ⟨hit',st.2.extBut hs'.extBut hne⟩ hs'
 done:=fun s Q E st hE => oqd hh st.1 st.2 (by simp) hE
end
abbrev titO (t:Addr):Obj:={ cls:=.type "tuple_iterator",data:=.fields #[.ref t,.int 0 0] }
abbrev enuO (it:Addr):Obj:={ cls:=.type "enumerate",data:=.fields #[.none,.bool false,.ref it,rawInt 0,.none,.none] }
theorem qq1 (t:Addr) (its:Array Value):Meets (Builtin.«enumerate.__new__» ⟨[.type "enumerate",.ref t],[]⟩) (fun _ R s => s.heap.IsTuple t its ∧
  R (.ok (.ret (.ref (s.heap.push (titO t)).objs.size))) { s with heap:=(s.heap.push (titO t)).push (enuO s.heap.objs.size) }) :=
 .of_wp fun prog w A R s h => by
  obtain ⟨hp,g,d,tk,os⟩:=s; obtain ⟨hl,h⟩:=h
  have hsub:=sub_enumerate
  wp_walk using wpAny_pyIter_tuple hl
  refine wpAny_stack_any fun _ => wpAny_pure ?_
  split
  ·rename_i z _ _ _ _ _
   cases (z == Value.type "enumerate") <;> (wp_walk using wpAny_pyIter_tuple hl) <;> exact ⟨_,rfl,h⟩
  ·wp_walk using wpAny_pyIter_tuple hl
   exact ⟨_,rfl,h⟩
section
variable {prog:Program}{w:World}{A:Around}{E:Value->Shared->Prop}{s:Shared}
theorem pqn {t:Addr}{its:Array Value}{Q:Value->Shared->Prop} (ht:s.heap.IsTuple t its)
  (h:∀ h',IsEnum h' (s.heap.objs.size + 1) s.heap.objs.size 0 .none->h'.IsTupleIter s.heap.objs.size t 0->(∀ b o,s.heap.get? b=some o->h'.get? b=some o)->Q (.ref (s.heap.objs.size + 1)) { s with heap:=h' }) :
  wpAny (model prog w) A (call (.type "enumerate") [.ref t]) Q E s:=by
 refine callType_new F.called_enumerate (by decide) (F.typeCall_enumerate_1 _) (F.newCall_enumerate_1 _) (fun obj => F.args_object_init_2 obj _) F.entry_enumerate_new (qq1 t its) ⟨ht,?_⟩
 have hz:(s.heap.push (titO t)).objs.size=s.heap.objs.size + 1:=Heap.size_push ..
 show _∧_
 rw [hz]
 have he:IsEnum ((s.heap.push (titO t)).push (enuO s.heap.objs.size)) (s.heap.objs.size + 1) s.heap.objs.size 0 .none:=by
  have:=Heap.get?_push_size (s.heap.push (titO t)) (o:=enuO s.heap.objs.size) rfl
  rw [hz] at this
  exact this
 exact ⟨⟨_,he,rfl⟩,h _ he ⟨_,Heap.get?_push_of_some _ (Heap.get?_push_size _ rfl),rfl,rfl⟩ fun b o x => Heap.get?_push_of_some _ (Heap.get?_push_of_some _ x)⟩
end
def ItE (K:PySem.W.Frag) (a:Addr) (xs:List V):It:=ItW xs.length (fun H => SqT K H a xs) fun i _ ys => ∃ v,xs[i]?=some v∧ys=[.int (i:Int),v]
theorem oqu {P:Program}{w:World}{K:PySem.W.Frag}{elts:List Expr}{k:Nat}{pos:Pos} (a it e:Addr) (xs:List V) (h1:a ≠ it) (h2:e ≠ it) (h3:e ≠ a) :
  Turn P w K (.Tuple elts k pos) (ItE K a xs) [e,it] e (fun i h => (∃ old,IsEnum h e it i old)∧h.IsTupleIter it a i):=by
 refine iqv (fp:=e :: [it,a]) (α:={ its:Array Value // its.size=xs.length }) (Pt:=fun z i vals => ∃ t x,z.1[i]?=some x∧vals=#[.int i t,x])
  (Sn:=fun z i h => (∃ old,IsEnum h e it i old)∧(h.IsTupleIter it a i∧h.IsTuple a z.1)) (Mid:=fun z i T h => (∃ x,IsEnumOut h e it ((i:Int) + 1) x T)∧(h.IsTupleIter it a (i + 1)∧h.IsTuple a z.1)∧T ≠ e∧T ≠ it)
  (by simp) (fun _ z => z) (fun A z hh => ?_) (fun A i s Q E st q => ?_) (fun i h st b hb => ?_) (fun i h h' st kp => ?_) ?_ (fun z i h st => ⟨st.1,st.2.1⟩)
 ·have:=WalksT.enumerateD (hqX (prog:=P) (w:=w) (A:=A.in1) hh it a h1 z.1) e h2 (by simp [h2,h3]) (by simp)
  rw [z.2] at this
  exact this
 ·obtain ⟨⟨old,he⟩,_⟩:=st
  exact wpAny_pyIter_enum he q
 ·obtain ⟨⟨old,he⟩,o,ho,hc,hd⟩:=st
  rcases List.mem_cons.mp hb with rfl | hb
  ·exact ⟨_,he,fun v z => by cases z⟩
  ·rw [List.mem_singleton.mp hb]
   exact ⟨o,ho,fun v z => by rw [hd] at z; cases z⟩
 ·obtain ⟨⟨old,he⟩,o,ho,r⟩:=st
  exact ⟨⟨old,kp e (by simp) _ he⟩,o,kp it (by simp) o ho,r⟩
 ·intro X hP hw hK i pins s σ H J hf st hok
  subst hP hw hK
  obtain ⟨its,rv,p,hz⟩:=J.tuple hok
  refine ⟨⟨its.toArray,by have:=rv.length; simp; omega⟩,⟨st.1,st.2,p⟩,?_⟩
  rintro vals ⟨t,x,hx,rfl⟩
  have hx':its[i]?=some x:=by simpa using hx
  have hi:i < xs.length:=by have:=rv.length; have:=(List.getElem?_eq_some_iff.mp hx').1; omega
  obtain ⟨u,hu,ru⟩:=rv.get (List.getElem?_eq_getElem hi)
  rw [hx'] at hu
  cases hu
  exact ⟨[.int (i:Int),xs[i]],(show 2 ≤ sizeLine by decide),.cons ⟨t,rfl⟩ (.cons ru .nil),xs[i],List.getElem?_eq_getElem hi,rfl⟩
section
variable {X:Cx}{K:PySem.W.Frag}{elts:List Expr}{kk:Nat}{tpos:Pos}
def iEnum (K:PySem.W.Frag) (ta:TA):TI:=fun σ H R => ta σ H fun vs H1 => ∃ a xs,vs=[.ref a]∧SqT K H1 a xs∧R (ItE K a xs) H1
theorem tqa {a:Expr}{ta:TA}{p pos:Pos} (h:X.K=K) (hg:Gl X "enumerate") (hm:X.mg "enumerate" = none) (ha:PA X [a] ta) (hs:starEach [a] X.env=[(false,eval a X.env)]:=by rfl):PI X (.Tuple elts kk tpos) (.Call (.Name "enumerate" p) [a] [] pos) (iEnum K ta):=by
 subst h
 intro pins s σ H R I q
 refine Call_ (iqb I hg hm boot_enumerate (PyProof.Rows.callWith_type1 (thn (ha pos pins s σ H _ I q) fun us s1 W' => ?_) hs rfl))
 obtain ⟨vs,H1,I1,r1,q1⟩:=W'
 obtain ⟨a,xs,e,hq,q⟩:=q1
 subst e
 obtain ⟨u,rfl,ru⟩:=vals1 r1
 cases ru
 obtain ⟨its,rv,pt,hz⟩:=I1.tuple hq
 refine pqn (show s1.heap.IsTuple a its.toArray from pt) fun h' he hi hk => ?_
 refine wpAny_pyIter_enum (s:={ s1 with heap:=h' }) he ?_
 have hal:a < s1.heap.objs.size:=by obtain ⟨o,ho,_⟩:=pt; exact Heap.lt_size ho
 have hkept:Inv X pins σ H1 { s1 with heap:=h' }:=I1.kept (t':=s1.toks) hk
 refine ⟨s1.heap.objs.size + 1,[s1.heap.objs.size + 1,s1.heap.objs.size],_,_,H1,rfl,hkept,oqu a s1.heap.objs.size (s1.heap.objs.size + 1) xs (Nat.ne_of_lt hal) (Nat.succ_ne_self _) (Nat.ne_of_gt (Nat.lt_succ_of_lt hal)),⟨⟨_,he⟩,hi⟩,fun b hb => ?_,q⟩
 simp only [List.mem_cons,List.not_mem_nil,or_false] at hb
 have hb':s1.heap.objs.size ≤ b:=by
  rcases hb with rfl | rfl
  ·exact Nat.le_succ _
  ·exact Nat.le_refl _
 exact I1.fpOk hb' (I1.hok.fresh hb')
variable {σ:St}{H:Hp}{D:Ends}{g:TG}{tb:TS}{aa:TA}
theorem sqn:(tFor (iEnum K aa) g tb D σ H)=(aa σ H fun vs H1 => ∃ a xs,vs=[.ref a]∧SqT K H1 a xs∧LoopI (ItE K a xs) g tb D σ H1):=rfl
theorem nq8 {a:Addr}{xs:List V} (Pv:Nat->St->Hp->Prop) (h0:Pv 0 σ H) (hl:∀ i σ H,i ≤ xs.length->Pv i σ H->SqT K H a xs)
  (hs:∀ i v σ H T,xs[i]?=some v->Pv i σ H->H T=none->g (.ref T) σ (upd H T (.tup [.int (i:Int),v])) fun σ2 H2 => tb { D with nx:=Pv (i + 1),ct:=Pv (i + 1),bk:=D.nx } σ2 H2) (hd:∀ σ H,Pv xs.length σ H->D.nx σ H):LoopI (ItE K a xs) g tb D σ H :=
 hq8 Pv h0 hl (fun i σ H T ys _ p hT hy => by obtain ⟨v,hv,rfl⟩:=hy; exact hs i v σ H T hv p hT) hd
end
structure Zap (z TI TO i1 i2 l1 l2:Addr):Prop where
 a1:TI ≠ z∧TO ≠ z∧i1 ≠ z∧i2 ≠ z∧l1 ≠ z∧l2 ≠ z
 a2:TI ≠ TO∧TI ≠ i1∧TI ≠ i2∧TO ≠ i1∧TO ≠ i2∧i1 ≠ i2
 a3:l1 ≠ TO∧l2 ≠ TO∧l1 ≠ i2∧l2 ≠ i1
section
variable {prog:Program}{w:World}{A:Around}{E:Value->Shared->Prop}{s:Shared}
variable {z TI TO i1 i2 l1 l2:Addr}{n1 n2 k:Nat}{P1 P2:Nat->Value->Prop}{S1 S2:Nat->Heap->Prop}
theorem still {it l b:Addr}{n i:Nat}{P:Nat->Value->Prop}{S:Nat->Heap->Prop}{h h':Heap} (D:Draws prog w A it [it,l] n P S) (st:S i h) (e:Heap.ExtBut b h h') (h1:it ≠ b) (h2:l ≠ b):S i h' :=
 D.frame i h h' st fun c hc o q => e c o (by rcases List.mem_cons.mp hc with rfl | hc; exact h1; rw [List.mem_singleton.mp hc]; exact h2) q
theorem pq8 (hh:A.handled=none) (d1:∀ A:Around,A.handled=none->Draws prog w A i1 [i1,l1] n1 P1 S1) (d2:∀ A:Around,A.handled=none->Draws prog w A i2 [i2,l2] n2 P2 S2) (ap:Zap z TI TO i1 i2 l1 l2) {a b:Value}{Q:Value->Shared->Prop}
  (hz:IsZip s.heap z TI TO .none) (hTI:IsPair s.heap TI (.ref i1) (.ref i2)) (hTO:IsPair s.heap TO a b) (t1:S1 k s.heap) (t2:S2 k s.heap) (k1:k < n1) (k2:k < n2)
  (q:∀ x y h' tk,P1 k x->P2 k y->IsZip h' z TI TO (rawInt s.heap.objs.size)->IsPair h' TO x y->S1 (k + 1) h'->S2 (k + 1) h'->IsPair h' s.heap.objs.size x y ->
   (∀ c o,c ≠ z->c ≠ TO->c ≠ i1->c ≠ i2->s.heap.get? c=some o->h'.get? c=some o)->Q (.ref s.heap.objs.size) { s with heap:=h',toks:=tk }) :
  wpAny (model prog w) A (Builtin.«zip.__next__» ⟨[.ref z],[]⟩) (fun fin s' => ∃ v,fin=.done (.ret v)∧Q v s') E s:=by
 obtain ⟨⟨p1,p2,p3,p4,p5,p6⟩,⟨q1,q2,q3,q4,q5,q6⟩,r1,r2,r3,r4⟩:=ap
 show wpAny _ _ (field (.ref z) 2 >>= _) _ _ s
 refine wpAny_bind (wpAny_field (s:=s) hz rfl (x:=.bool false) rfl ?_)
 show wpAny _ _ (field (.ref z) 3 >>= _) _ _ s
 refine wpAny_bind (wpAny_field (s:=s) hz rfl (x:=.ref TI) rfl (wpAny_bind (wpAny_seqItems hTI rfl ?_)))
 show wpAny _ _ (Builtin.SmallTypes.ownedTupleIsFree (.ref z) >>= _) _ _ s
 unfold Builtin.SmallTypes.ownedTupleIsFree
 refine wpAny_bind (wpAny_bind (wpAny_field (s:=s) hz rfl (x:=.none) rfl (wpAny_pure ?_)))
 simp only [if_true]
 refine wpAny_bind (wpAny_rule (wpAny_bind (wpAny_field (s:=s) hz rfl (x:=.ref TO) rfl (wpAny_bind (wpAny_setField_rec hz (by simp) fun ha za sa => ?_)))))
 replace za:IsZip ha z TI TO .ellipsis:=za
 simp only [List.zipIdx_cons,List.zipIdx_nil,List.forIn_cons,List.forIn_nil]
 refine wpAny_bind (wpAny_bind (wpAny_bind (wpAny_onRaise ?_)))
 show wpAny _ _ (Builtin.SmallTypes.nextOf (.ref i1) >>= _) _ _ _
 refine wpAny_bind ((d1 A hh).item k _ _ _ k1 (still (d1 A hh) t1 sa.extBut p3 p5) fun x hb tb px s1b sb => wpAny_pure ?_)
 have ob:IsPair hb TO a b:=sb.extBut _ _ q4 (sa.extBut _ _ p2 hTO)
 refine wpAny_bind (wpAny_seqItems ob rfl (wpAny_bind (wpAny_updateSeq_pair ob fun hc oc sc => wpAny_bind (wpAny_letGo (wpAny_pure ?_)))))
 replace oc:IsPair hc TO x b:=oc
 refine wpAny_bind (wpAny_bind (wpAny_onRaise ?_))
 show wpAny _ _ (Builtin.SmallTypes.nextOf (.ref i2) >>= _) _ _ _
 have t2c:S2 k hc:=still (d2 A hh) (still (d2 A hh) (still (d2 A hh) t2 sa.extBut p4 p6) sb.extBut q6.symm r4) sc.extBut q5.symm r2
 refine wpAny_bind ((d2 A hh).item k _ _ _ k2 t2c fun y hd td py s2d sd => wpAny_pure ?_)
 have od:IsPair hd TO x b:=sd.extBut _ _ q5 oc
 refine wpAny_bind (wpAny_seqItems od rfl (wpAny_bind (wpAny_updateSeq_pair od fun he oe se => wpAny_bind (wpAny_letGo (wpAny_pure (wpAny_pure ?_))))))
 replace oe:IsPair he TO x y:=oe
 refine wpAny_bind (wpAny_seqItems oe rfl (wpAny_bind (wpAny_newTuple ?_)))
 have ze:IsZip he z TI TO .ellipsis:=se.extBut _ _ p2.symm (sd.extBut _ _ p4.symm (sc.extBut _ _ p2.symm (sb.extBut _ _ p3.symm za)))
 have hsz:he.objs.size=s.heap.objs.size:=by rw [se.1,sd.1,sc.1,sb.1,sa.1]
 have ke:∀ c o,c ≠ z->c ≠ TO->c ≠ i1->c ≠ i2->s.heap.get? c=some o->he.get? c=some o:=fun c o c1 c2 c3 c4 e => se.extBut _ _ c2 (sd.extBut _ _ c4 (sc.extBut _ _ c2 (sb.extBut _ _ c3 (sa.extBut _ _ c1 e))))
 have s1e:S1 (k + 1) he:=still (d1 A hh) (still (d1 A hh) (still (d1 A hh) s1b sc.extBut q4.symm r1) sd.extBut q6 r3) se.extBut q4.symm r1
 have s2e:S2 (k + 1) he:=still (d2 A hh) s2d se.extBut q5.symm r2
 have zl:z < he.objs.size:=Heap.lt_size ze
 show wpAny _ _ (Builtin.SmallTypes.ownedTupleHandOut (.ref z) (.ref he.objs.size) >>= _) _ _ _
 unfold Builtin.SmallTypes.ownedTupleHandOut
 have zf:IsZip (he.push { cls:=.type "tuple",data:=.seq #[x,y] }) z TI TO .ellipsis:=Heap.get?_push_of_some _ ze
 refine wpAny_bind (wpAny_bind (wpAny_setField_rec zf (by simp) fun hf zg sf => ?_))
 replace zg:IsZip hf z TI TO (rawInt he.objs.size):=zg
 refine wpAny_setField_rec zg (by simp) fun hg zh sg => ?_
 replace zh:IsZip hg z TI TO (rawInt he.objs.size):=zh
 have up:∀ c o,c ≠ z->he.get? c=some o->hg.get? c=some o:=fun c o c1 e => sg.extBut _ _ c1 (sf.extBut _ _ c1 (Heap.get?_push_of_some _ e))
 have tg:IsPair hg he.objs.size x y:=sg.extBut _ _ (Nat.ne_of_gt zl) (sf.extBut _ _ (Nat.ne_of_gt zl) (Heap.get?_push_size _ rfl))
 rw [hsz] at zh tg
 refine wpAny_pure ⟨_,rfl,?_⟩
 show Q (.ref he.objs.size) _
 rw [hsz]
 exact q x y hg td px py zh (up _ _ p2 oe) ((d1 A hh).frame _ _ _ s1e fun c hc o e => up c o (by rcases List.mem_cons.mp hc with rfl | hc; exact p3; rw [List.mem_singleton.mp hc]; exact p5) e) ((d2 A hh).frame _ _ _ s2e fun c hc o e => up c o (by rcases List.mem_cons.mp hc with rfl | hc; exact p4; rw [List.mem_singleton.mp hc]; exact p6) e) tg fun c o c1 c2 c3 c4 e => up c o c1 (ke c o c1 c2 c3 c4 e)
theorem qqI (hh:A.handled=none) (d1:∀ A:Around,A.handled=none->Draws prog w A i1 [i1,l1] n1 P1 S1) (d2:∀ A:Around,A.handled=none->Draws prog w A i2 [i2,l2] n2 P2 S2) (ap:Zap z TI TO i1 i2 l1 l2) {a b:Value}{Q:Fin->Shared->Prop}
  (hz:IsZip s.heap z TI TO .none) (hTI:IsPair s.heap TI (.ref i1) (.ref i2)) (hTO:IsPair s.heap TO a b) (t1:S1 k s.heap) (t2:S2 k s.heap) (hk:k=n1 ∨ (k < n1∧k=n2))
  (q:∀ h' e tk,(∀ c o,c ≠ z->c ≠ TO->c ≠ i1->c ≠ i2->s.heap.get? c=some o->h'.get? c=some o)->(∃ o,h'.get? e=some o∧o.cls=.type "StopIteration")->E (.ref e) { s with heap:=h',toks:=tk }) :
  wpAny (model prog w) A (Builtin.«zip.__next__» ⟨[.ref z],[]⟩) Q E s:=by
 obtain ⟨⟨p1,p2,p3,p4,p5,p6⟩,⟨q1,q2,q3,q4,q5,q6⟩,r1,r2,r3,r4⟩:=ap
 show wpAny _ _ (field (.ref z) 2 >>= _) _ _ s
 refine wpAny_bind (wpAny_field (s:=s) hz rfl (x:=.bool false) rfl ?_)
 show wpAny _ _ (field (.ref z) 3 >>= _) _ _ s
 refine wpAny_bind (wpAny_field (s:=s) hz rfl (x:=.ref TI) rfl (wpAny_bind (wpAny_seqItems hTI rfl ?_)))
 show wpAny _ _ (Builtin.SmallTypes.ownedTupleIsFree (.ref z) >>= _) _ _ s
 unfold Builtin.SmallTypes.ownedTupleIsFree
 refine wpAny_bind (wpAny_bind (wpAny_field (s:=s) hz rfl (x:=.none) rfl (wpAny_pure ?_)))
 simp only [if_true]
 refine wpAny_bind (wpAny_rule (wpAny_bind (wpAny_field (s:=s) hz rfl (x:=.ref TO) rfl (wpAny_bind (wpAny_setField_rec hz (by simp) fun ha za sa => ?_)))))
 replace za:IsZip ha z TI TO .ellipsis:=za
 simp only [List.zipIdx_cons,List.zipIdx_nil,List.forIn_cons,List.forIn_nil]
 refine wpAny_bind (wpAny_bind (wpAny_bind (wpAny_onRaise ?_)))
 show wpAny _ _ (Builtin.SmallTypes.nextOf (.ref i1) >>= _) _ _ _
 rcases hk with rfl | ⟨k1,rfl⟩
 ·refine wpAny_bind ((d1 A hh).done _ _ _ (still (d1 A hh) t1 sa.extBut p3 p5) fun hb e sb W' => ?_)
  obtain ⟨oe,ho,hc⟩:=W'
  have zb:IsZip hb z TI TO .ellipsis:=sb _ _ p3.symm za
  have ez:e ≠ z:=fun y => by subst y; rw [zb] at ho; cases ho; simp at hc
  exact wpAny_setField_rec zb (by simp) fun hd _ sd => q hd e _ (fun c o c1 _ c3 _ y => sd.extBut _ _ c1 (sb _ _ c3 (sa.extBut _ _ c1 y))) ⟨oe,sd.extBut _ _ ez ho,hc⟩
 refine wpAny_bind ((d1 A hh).item _ _ _ _ k1 (still (d1 A hh) t1 sa.extBut p3 p5) fun x hb tb px s1b sb => wpAny_pure ?_)
 have ob:IsPair hb TO a b:=sb.extBut _ _ q4 (sa.extBut _ _ p2 hTO)
 refine wpAny_bind (wpAny_seqItems ob rfl (wpAny_bind (wpAny_updateSeq_pair ob fun hc oc sc => wpAny_bind (wpAny_letGo (wpAny_pure ?_)))))
 refine wpAny_bind (wpAny_bind (wpAny_onRaise ?_))
 show wpAny _ _ (Builtin.SmallTypes.nextOf (.ref i2) >>= _) _ _ _
 have t2c:=still (d2 A hh) (still (d2 A hh) (still (d2 A hh) t2 sa.extBut p4 p6) sb.extBut q6.symm r4) sc.extBut q5.symm r2
 refine wpAny_bind ((d2 A hh).done _ _ _ t2c fun hd e sd W' => ?_)
 obtain ⟨oe,ho,hce⟩:=W'
 have zd:IsZip hd z TI TO .ellipsis:=sd _ _ p4.symm (sc.extBut _ _ p2.symm (sb.extBut _ _ p3.symm za))
 have ez:e ≠ z:=fun y => by subst y; rw [zd] at ho; cases ho; simp at hce
 exact wpAny_setField_rec zd (by simp) fun hf _ sf => q hf e _ (fun c o c1 c2 c3 c4 y => sf.extBut _ _ c1 (sd _ _ c4 (sc.extBut _ _ c2 (sb.extBut _ _ c3 (sa.extBut _ _ c1 y))))) ⟨oe,sf.extBut _ _ ez ho,hce⟩
theorem oqW (hh:A.handled=none) (d1:∀ A:Around,A.handled=none->Draws prog w A i1 [i1,l1] n1 P1 S1) (d2:∀ A:Around,A.handled=none->Draws prog w A i2 [i2,l2] n2 P2 S2) (ap:Zap z TI TO i1 i2 l1 l2) :
  WalksT prog w A z [z,TI,TO,i1,i2,l1,l2] [z,TO,i1,i2] (min n1 n2) (fun i vals => ∃ x y,P1 i x∧P2 i y∧vals=#[x,y])
   (fun i h => IsZip h z TI TO .none∧IsPair h TI (.ref i1) (.ref i2)∧(∃ a b,IsPair h TO a b)∧S1 i h∧S2 i h)
   (fun i T h => IsZip h z TI TO (rawInt T)∧IsPair h TI (.ref i1) (.ref i2)∧(∃ a b,IsPair h TO a b)∧S1 (i + 1) h∧S2 (i + 1) h∧T ≠ z∧T ≠ TO∧T ≠ i1∧T ≠ i2) where
 sub:=fun c hc => by simp at hc ⊢; rcases hc with rfl | rfl | rfl | rfl <;> simp
 frame:=fun i h h' st hk => by
  obtain ⟨hz,hTI,⟨a,b,hTO⟩,t1,t2⟩:=st
  exact ⟨hk z (by simp) _ hz,hk TI (by simp) _ hTI,⟨a,b,hk TO (by simp) _ hTO⟩,(d1 A hh).frame _ _ _ t1 fun c hc o e => hk c (by simp at hc ⊢; rcases hc with rfl | rfl <;> simp) o e,(d2 A hh).frame _ _ _ t2 fun c hc o e => hk c (by simp at hc ⊢; rcases hc with rfl | rfl <;> simp) o e⟩
 item:=fun i s Q E hi st hQ => by
  obtain ⟨hz,hTI,⟨a,b,hTO⟩,t1,t2⟩:=st
  have hT:s.TypeIs (.ref z) "zip" := ⟨_,hz,rfl⟩
  have lt:∀ {c o},s.heap.get? c=some o->s.heap.objs.size ≠ c:=fun e => Nat.ne_of_gt (Heap.lt_size e)
  unfold pyNext
  refine wpAny_bind (wpAny_attempt (wpAny_callSpecial?_slot (name:=Str.ofString "__next__") hT F.slot_zip_next (wpAny_call_entry F.slot_zip_next hT F.entry_zip_next ?_ (F.args_zip_next_1 _))))
  refine pq8 (A:=A.in1) hh d1 d2 ap hz hTI hTO t1 t2 (Nat.lt_of_lt_of_le hi (Nat.min_le_left ..)) (Nat.lt_of_lt_of_le hi (Nat.min_le_right ..)) fun x y h' tk px py z' o' s1 s2 T' hk => wpAny_pure ?_
  obtain ⟨o1,e1⟩:=(d1 A hh).live _ _ t1
  obtain ⟨o2,e2⟩:=(d2 A hh).live _ _ t2
  exact hQ s.heap.objs.size #[x,y] h' tk ⟨x,y,px,py,rfl⟩ (Nat.le_refl _) ⟨_,T',rfl,_,rfl⟩
   ⟨z',hk _ _ ap.a1.1 ap.a2.1 ap.a2.2.1 ap.a2.2.2.1 hTI,⟨_,_,o'⟩,s1,s2,lt hz,lt hTO,lt e1,lt e2⟩
   fun c o hc e => hk c o (fun y => hc (by simp [y])) (fun y => hc (by simp [y])) (fun y => hc (by simp [y])) (fun y => hc (by simp [y])) e
 go:=fun elts k pos i T s Q E hm hQ => by
  obtain ⟨hz,hTI,⟨a,b,hTO⟩,t1,t2,_⟩:=hm
  obtain ⟨⟨p1,p2,p3,p4,p5,p6⟩,_⟩:=ap
  exact wpAny_letOwnedTupleGo_zip hz fun h' z' s' => hQ h' ⟨z',s'.extBut _ _ p1 hTI,⟨a,b,s'.extBut _ _ p2 hTO⟩,still (d1 A hh) t1 s'.extBut p3 p5,still (d2 A hh) t2 s'.extBut p4 p6⟩ fun c o hc e => s'.extBut _ _ (fun y => hc (by simp [y])) e
 apart:=fun i T h hm hT => by
  obtain ⟨_,_,_,_,_,t1,t2,t3,t4⟩:=hm
  simp only [List.mem_cons,List.not_mem_nil,or_false] at hT
  rcases hT with h | h | h | h
  ·exact t1 h
  ·exact t2 h
  ·exact t3 h
  ·exact t4 h
 done:=fun s Q E st hQ => by
  obtain ⟨hz,hTI,⟨a,b,hTO⟩,t1,t2⟩:=st
  have hT:s.TypeIs (.ref z) "zip" := ⟨_,hz,rfl⟩
  unfold pyNext
  refine wpAny_bind (wpAny_attempt (wpAny_callSpecial?_slot (name:=Str.ofString "__next__") hT F.slot_zip_next (wpAny_call_entry F.slot_zip_next hT F.entry_zip_next ?_ (F.args_zip_next_1 _))))
  refine qqI (A:=A.in1) hh d1 d2 ap hz hTI hTO t1 t2 (by omega) fun h' e tk hk W' => ?_
  obtain ⟨o,ho,hc⟩:=W'
  refine wpAny_bind (wpAny_isInstance (T := "StopIteration") (b:=true) ⟨o,ho,hc⟩ isSubtype_stop (wpAny_pure (hQ h' tk fun c o hc e => ?_)))
  exact hk c o (fun y => hc (by simp [y])) (fun y => hc (by simp [y])) (fun y => hc (by simp [y])) (fun y => hc (by simp [y])) e
 self:=fun i s Q E st hQ => wpAny_pyIter_zip st.1 hQ
end
abbrev zA (h:Heap) (a:Addr):Heap:=h.push (titO a)
abbrev zB (h:Heap) (a b:Addr):Heap:=(zA h a).push (titO b)
abbrev zC (h:Heap) (a b:Addr):Heap:=(zB h a b).push { cls:=.type "tuple",data:=.seq #[.ref h.objs.size,.ref (zA h a).objs.size] }
abbrev zD (h:Heap) (a b:Addr):Heap:=(zC h a b).push { cls:=.type "tuple",data:=.seq #[.none,.none] }
abbrev zE (h:Heap) (a b:Addr):Heap:=(zD h a b).push { cls:=.type "zip",data:=.fields #[.none,.bool false,.bool false,.ref (zB h a b).objs.size,.ref (zC h a b).objs.size] }
theorem rq1 (a b:Addr) (xs ys:Array Value):Meets (Builtin.«zip.__new__» ⟨[.type "zip",.ref a,.ref b],[]⟩) (fun _ R s => s.heap.IsTuple a xs∧s.heap.IsTuple b ys∧R (.ok (.ret (.ref (zD s.heap a b).objs.size))) { s with heap:=zE s.heap a b }) :=
 .of_wp fun prog w A R s h => by
  obtain ⟨hp,g,d,tk,os⟩:=s; obtain ⟨ha,hb,h⟩:=h
  have hsub:=sub_zip
  have h1:Heap.IsTuple (Shared.heap ⟨hp,g,d,tk,os⟩) a xs:=ha
  have h2:Heap.IsTuple (Shared.heap ⟨hp.push (titO a),g,d,tk,os⟩) b ys:=Heap.IsTuple.push hb _
  wp_walk using wpAny_pyIter_tuple h1,wpAny_pyIter_tuple h2
  exact ⟨_,rfl,h⟩
section
variable {prog:Program}{w:World}{A:Around}{E:Value->Shared->Prop}{s:Shared}
theorem qqk {a b:Addr}{xs ys:Array Value}{Q:Value->Shared->Prop} (ha:s.heap.IsTuple a xs) (hb:s.heap.IsTuple b ys)
  (h:∀ h',IsZip h' (s.heap.objs.size + 4) (s.heap.objs.size + 2) (s.heap.objs.size + 3) .none->IsPair h' (s.heap.objs.size + 2) (.ref s.heap.objs.size) (.ref (s.heap.objs.size + 1))->IsPair h' (s.heap.objs.size + 3) .none .none ->
   h'.IsTupleIter s.heap.objs.size a 0->h'.IsTupleIter (s.heap.objs.size + 1) b 0->(∀ c o,s.heap.get? c=some o->h'.get? c=some o)->Q (.ref (s.heap.objs.size + 4)) { s with heap:=h' }) :
  wpAny (model prog w) A (call (.type "zip") [.ref a,.ref b]) Q E s:=by
 refine callType_new F.called_zip (by decide) (F.typeCall_zip_2 _ _) (F.newCall_zip_2 _ _) (fun obj => F.args_object_init_3 obj _ _) F.entry_zip_new (rq1 a b xs ys) ⟨ha,hb,?_⟩
 have y1:(zA s.heap a).objs.size=s.heap.objs.size + 1:=Heap.size_push ..
 have y2:(zB s.heap a b).objs.size=s.heap.objs.size + 2:=by rw [Heap.size_push,y1]
 have y3:(zC s.heap a b).objs.size=s.heap.objs.size + 3:=by rw [Heap.size_push,y2]
 have y4:(zD s.heap a b).objs.size=s.heap.objs.size + 4:=by rw [Heap.size_push,y3]
 have up:∀ {h:Heap}{o:Obj}{c:Addr}{u:Obj},h.get? c=some u->(h.push o).get? c=some u:=fun e => Heap.get?_push_of_some _ e
 have e5:(zE s.heap a b).get? (zD s.heap a b).objs.size=some _:=Heap.get?_push_size _ rfl
 have e4:(zE s.heap a b).get? (zC s.heap a b).objs.size=some _:=up (Heap.get?_push_size _ rfl)
 have e3:(zE s.heap a b).get? (zB s.heap a b).objs.size=some _:=up (up (Heap.get?_push_size _ rfl))
 have e2:(zE s.heap a b).get? (zA s.heap a).objs.size=some _:=up (up (up (Heap.get?_push_size _ rfl)))
 have e1:(zE s.heap a b).get? s.heap.objs.size=some _:=up (up (up (up (Heap.get?_push_size _ rfl))))
 show _∧_
 rw [y2,y3,y4] at e5
 rw [y1,y2] at e3
 rw [y3] at e4
 rw [y1] at e2
 rw [y4]
 exact ⟨⟨_,e5,rfl⟩,h _ e5 e3 e4 ⟨_,e1,rfl,rfl⟩ ⟨_,e2,rfl,rfl⟩ fun c o x => up (up (up (up (up x))))⟩
end
def ItZ (K:PySem.W.Frag) (a b:Addr) (xs ys:List V):It:=ItW (min xs.length ys.length) (fun H => SqT K H a xs∧SqT K H b ys) fun i _ vs => ∃ x y,xs[i]?=some x∧ys[i]?=some y∧vs=[x,y]
theorem qqS {P:Program}{w:World}{K:PySem.W.Frag}{elts:List Expr}{k:Nat}{pos:Pos}{z TI TO i1 i2 a b:Addr} (xs ys:List V) (ap:Zap z TI TO i1 i2 a b) (h1:a ≠ i1) (h2:b ≠ i2) :
  Turn P w K (.Tuple elts k pos) (ItZ K a b xs ys) [z,TO,i1,i2,TI] z (fun i h => IsZip h z TI TO .none∧IsPair h TI (.ref i1) (.ref i2)∧(∃ u v,IsPair h TO u v)∧h.IsTupleIter i1 a i∧h.IsTupleIter i2 b i):=by
 refine iqv (fp:=[z,TI,TO,i1,i2,a,b]) (wr:=[z,TO,i1,i2]) (α:={ q:Array Value × Array Value // q.1.size=xs.length∧q.2.size=ys.length }) (Pt:=fun q i vals => ∃ x y,q.1.1[i]?=some x∧q.1.2[i]?=some y∧vals=#[x,y])
  (Sn:=fun q i h => IsZip h z TI TO .none∧IsPair h TI (.ref i1) (.ref i2)∧(∃ a b,IsPair h TO a b)∧(h.IsTupleIter i1 a i∧h.IsTuple a q.1.1)∧(h.IsTupleIter i2 b i∧h.IsTuple b q.1.2))
  (Mid:=fun q i T h => IsZip h z TI TO (rawInt T)∧IsPair h TI (.ref i1) (.ref i2)∧(∃ a b,IsPair h TO a b)∧(h.IsTupleIter i1 a (i + 1)∧h.IsTuple a q.1.1)∧(h.IsTupleIter i2 b (i + 1)∧h.IsTuple b q.1.2)∧T ≠ z∧T ≠ TO∧T ≠ i1∧T ≠ i2)
  (by simp) (fun b hb => by simp at hb ⊢; rcases hb with rfl | rfl | rfl | rfl <;> simp) (fun A q hh => ?_) (fun A i s Q E st q => wpAny_pyIter_zip st.1 q) (fun i h st b hb => ?_) (fun i h h' st kp => ?_) ?_ (fun q i h st => ⟨st.1,st.2.1,st.2.2.1,st.2.2.2.1.1,st.2.2.2.2.1⟩)
 ·have:=oqW (prog:=P) (w:=w) (A:=A) hh (fun B hB => hqX (prog:=P) (w:=w) (A:=B) hB i1 a h1 q.1.1) (fun B hB => hqX (prog:=P) (w:=w) (A:=B) hB i2 b h2 q.1.2) ap
  rw [q.2.1,q.2.2] at this
  exact this
 ·obtain ⟨hz,hI,⟨u,v,hO⟩,⟨o1,e1,c1,d1⟩,o2,e2,c2,d2⟩:=st
  simp only [List.mem_cons,List.not_mem_nil,or_false] at hb
  rcases hb with rfl | rfl | rfl | rfl | rfl
  ·exact ⟨_,hz,fun v z => by cases z⟩
  ·exact ⟨_,hO,fun v z => by cases z⟩
  ·exact ⟨o1,e1,fun v z => by rw [d1] at z; cases z⟩
  ·exact ⟨o2,e2,fun v z => by rw [d2] at z; cases z⟩
  ·exact ⟨_,hI,fun v z => by cases z⟩
 ·obtain ⟨hz,hI,⟨u,v,hO⟩,⟨o1,e1,r1⟩,o2,e2,r2⟩:=st
  exact ⟨kp z (by simp) _ hz,kp TI (by simp) _ hI,⟨u,v,kp TO (by simp) _ hO⟩,⟨o1,kp i1 (by simp) _ e1,r1⟩,o2,kp i2 (by simp) _ e2,r2⟩
 ·intro X hP hw hK i pins s σ H J hf st hok
  subst hP hw hK
  obtain ⟨l1,rv1,p1,hz1⟩:=J.tuple hok.1
  obtain ⟨l2,rv2,p2,hz2⟩:=J.tuple hok.2
  refine ⟨⟨(l1.toArray,l2.toArray),by have:=rv1.length; simp; omega,by have:=rv2.length; simp; omega⟩,⟨st.1,st.2.1,st.2.2.1,⟨st.2.2.2.1,p1⟩,st.2.2.2.2,p2⟩,?_⟩
  rintro vals ⟨x,y,hx,hy,rfl⟩
  have hx':l1[i]?=some x:=by simpa using hx
  have hy':l2[i]?=some y:=by simpa using hy
  have hi:i < xs.length:=by have:=rv1.length; have:=(List.getElem?_eq_some_iff.mp hx').1; omega
  have hj:i < ys.length:=by have:=rv2.length; have:=(List.getElem?_eq_some_iff.mp hy').1; omega
  obtain ⟨u,hu,ru⟩:=rv1.get (List.getElem?_eq_getElem hi)
  obtain ⟨v,hv,rv⟩:=rv2.get (List.getElem?_eq_getElem hj)
  rw [hx'] at hu
  rw [hy'] at hv
  cases hu
  cases hv
  exact ⟨[xs[i],ys[i]],(show 2 ≤ sizeLine by decide),.cons ru (.cons rv .nil),xs[i],ys[i],List.getElem?_eq_getElem hi,List.getElem?_eq_getElem hj,rfl⟩
section
variable {X:Cx}{K:PySem.W.Frag}{elts:List Expr}{kk:Nat}{tpos:Pos}
theorem rq6 {n a b:Nat} (ha:a < n) (hb:b < n):Zap (n + 4) (n + 2) (n + 3) n (n + 1) a b:=by
 refine ⟨⟨?_,?_,?_,?_,?_,?_⟩,⟨?_,?_,?_,?_,?_,?_⟩,?_,?_,?_,?_⟩ <;> (show ¬ ((_:Nat)=_)) <;> omega
def iZip (K:PySem.W.Frag) (ta:TA):TI:=fun σ H R => ta σ H fun vs H1 => ∃ a b xs ys,vs=[.ref a,.ref b]∧SqT K H1 a xs∧SqT K H1 b ys∧R (ItZ K a b xs ys) H1
theorem qq2 {a b:Expr}{ta:TA}{p pos:Pos} (h:X.K=K) (hg:Gl X "zip") (hm:X.mg "zip" = none) (ha:PA X [a,b] ta) (hs:starEach [a,b] X.env=[(false,eval a X.env),(false,eval b X.env)]:=by rfl) (hs2:starEach [b] X.env=[(false,eval b X.env)]:=by rfl):PI X (.Tuple elts kk tpos) (.Call (.Name "zip" p) [a,b] [] pos) (iZip K ta):=by
 subst h
 intro pins s σ H R I q
 refine Call_ (iqb I hg hm boot_zip (PyProof.Rows.callWith_type1 (thn (ha pos pins s σ H _ I q) fun us s1 W' => ?_) (by rw [hs,hs2]) (by rw [hs2]; rfl)))
 obtain ⟨vs,H1,I1,r1,q1⟩:=W'
 obtain ⟨a,b,xs,ys,e,hq1,hq2,q⟩:=q1
 subst e
 obtain ⟨u,v,rfl,ru,rv⟩:=vals2 r1
 cases ru
 cases rv
 obtain ⟨l1,rv1,p1,hz1⟩:=I1.tuple hq1
 obtain ⟨l2,rv2,p2,hz2⟩:=I1.tuple hq2
 refine qqk (show s1.heap.IsTuple a l1.toArray from p1) (show s1.heap.IsTuple b l2.toArray from p2) fun h' he hI hO hi hj hk => ?_
 refine wpAny_pyIter_zip (s:={ s1 with heap:=h' }) he ?_
 have hal:a < s1.heap.objs.size:=by obtain ⟨o,ho,_⟩:=p1; exact Heap.lt_size ho
 have hbl:b < s1.heap.objs.size:=by obtain ⟨o,ho,_⟩:=p2; exact Heap.lt_size ho
 have hkept:Inv X pins σ H1 { s1 with heap:=h' }:=I1.kept (t':=s1.toks) hk
 refine ⟨s1.heap.objs.size + 4,[s1.heap.objs.size + 4,s1.heap.objs.size + 3,s1.heap.objs.size,s1.heap.objs.size + 1,s1.heap.objs.size + 2],_,_,H1,rfl,hkept,qqS xs ys (rq6 hal hbl) (Nat.ne_of_lt hal) (Nat.ne_of_lt (Nat.lt_succ_of_lt hbl)),⟨he,hI,⟨_,_,hO⟩,hi,hj⟩,fun b hb => ?_,q⟩
 simp only [List.mem_cons,List.not_mem_nil,or_false] at hb
 have hb':s1.heap.objs.size ≤ b:=by
  rcases hb with rfl | rfl | rfl | rfl | rfl
  ·exact Nat.le_add_right _ _
  ·exact Nat.le_add_right _ _
  ·exact Nat.le_refl _
  ·exact Nat.le_add_right _ _
  ·exact Nat.le_add_right _ _
 exact I1.fpOk hb' (I1.hok.fresh hb')
variable {σ:St}{H:Hp}{D:Ends}{g:TG}{tb:TS}{aa:TA}
theorem sqY:(tFor (iZip K aa) g tb D σ H)=(aa σ H fun vs H1 => ∃ a b xs ys,vs=[.ref a,.ref b]∧SqT K H1 a xs∧SqT K H1 b ys∧LoopI (ItZ K a b xs ys) g tb D σ H1):=rfl
theorem qqE {a b:Addr}{xs ys:List V} (Pv:Nat->St->Hp->Prop) (h0:Pv 0 σ H) (hl:∀ i σ H,i ≤ min xs.length ys.length->Pv i σ H->SqT K H a xs∧SqT K H b ys)
  (hs:∀ i x y σ H T,xs[i]?=some x->ys[i]?=some y->Pv i σ H->H T=none->g (.ref T) σ (upd H T (.tup [x,y])) fun σ2 H2 => tb { D with nx:=Pv (i + 1),ct:=Pv (i + 1),bk:=D.nx } σ2 H2) (hd:∀ σ H,Pv (min xs.length ys.length) σ H->D.nx σ H):LoopI (ItZ K a b xs ys) g tb D σ H :=
 hq8 Pv h0 hl (fun i σ H T zs _ p hT hy => by obtain ⟨x,y,hx,hy,rfl⟩:=hy; exact hs i x y σ H T hx hy p hT) hd
variable {p:Addr}{fv:St}{tt:TT}{te:TE}{Q:VK}{H1:Hp}{fr:List Nat}
theorem nqZ:(tComp2 K (iZip K aa) fr tt te σ H Q)=(aa σ H fun vs H1 => ∃ a b xs ys,vs=[.ref a,.ref b]∧SqT K H1 a xs∧SqT K H1 b ys∧∀ p,H1 p=none->CompI2 K (ItZ K a b xs ys) p (frV σ fr) tt te Q H1):=rfl
theorem pqM {a b:Addr}{xs ys zs:List V} (hxs:SqT K H1 a xs) (hys:SqT K H1 b ys) (hlen:zs.length ≤ sizeLine) (hp:H1 p=none) (hz:zs.length=min xs.length ys.length)
  (he:∀ (i:Nat) (x y z:V),xs[i]?=some x->ys[i]?=some y->zs[i]?=some z->∀ (H':Hp) (T:VK),Same H1 H'->(∀ H'',Same H' H''->T z H'')->te (some x :: some y :: fv) H' T)
  (hQ:∀ H',Same H1 H'->H' p=some (.lst zs)->Q (.ref p) H'):CompI2 K (ItZ K a b xs ys) p fv tYes te Q H1:=by
 refine ⟨fun i m ws H2 => m=zs.length - i∧i ≤ zs.length∧ws=zs.take i∧H2 p=some (.lst ws)∧Same H1 H2,⟨zs.length,by simp,Nat.zero_le _,by simp,aqk,fun b o e => by rw [aqq (aql e hp)]; exact e⟩,?_⟩
 rintro i m ws H2 ⟨rfl,hi,rfl,hp2,sm⟩
 refine ⟨hp2,?_⟩
 have qx:=sm.tup hxs
 have qy:=sm.tup hys
 by_cases hlt:i < zs.length
 ·refine .inr ⟨⟨by rw [<- hz]; exact hlt,qx,qy⟩,by rw [List.length_take]; omega,fun x H3 y => ?_⟩
  obtain ⟨T,vs,rfl,hT,rfl,x,y,hx,hy,rfl⟩:=y
  have s3:Same H2 (upd H2 T (.tup [x,y])):=fun b o e => by rw [aqq (aql e hT)]; exact e
  refine ⟨T,x,y,rfl,.inl (.inl aqk),?_⟩
  unfold tYes
  dsimp only
  rw [if_pos rfl]
  have hzi:zs[i]?=some zs[i]:=by simp [hlt]
  refine he i x y _ hx hy hzi _ _ (sm.trans s3) fun H5 s5 => ⟨s5 _ _ (s3 _ _ hp2),zs.length - (i + 1),by omega,rfl,hlt,?_,aqk,fun b o e => ?_⟩
  ·rw [List.take_add_one,hzi]; rfl
  ·rw [aqq (aql e hp)]; exact s5 _ _ (s3 _ _ (sm _ _ e))
 ·have e:i=zs.length:=by omega
  subst e
  refine .inl ⟨⟨hz,qx,qy⟩,hQ H2 sm ?_⟩
  rw [hp2,List.take_length]
end
section
variable {p:Addr}{fv:St}{tt:TT}{te:TE}{Q:VK}{H1 H:Hp}{fr:List Nat}{aa:TA}{σ:St}
theorem pqj:(tComp (iRng1 aa) fr tt te σ H Q)=(aa σ H fun vs H1 => ∃ j:Int,vs=[.int j]∧-(2 ^ 62) ≤ j∧j < 2 ^ 62∧∀ p,H1 p=none->CompI (Itr 0 j.toNat) p (frV σ fr) tt te Q H1):=rfl
theorem lqD {n:Nat} (J:Nat->List V->Hp->Prop) (hlen:n ≤ sizeLine) (h0:J 0 [] (upd H1 p (.lst [])))
  (he:∀ (i:Nat) (ys:List V) (H2:Hp) (T:VK),i < n->J i ys H2->H2 p=some (.lst ys)->(∀ y H3,H3 p=some (.lst ys)->J (i + 1) (ys ++ [y]) (upd H3 p (.lst (ys ++ [y])))->T y H3)->te (some (.int (0 + (i:Int))) :: fv) H2 T)
  (hQ:∀ ys H2,J n ys H2->H2 p=some (.lst ys)->Q (.ref p) H2):CompI (Itr 0 n) p fv tYes te Q H1:=by
 refine ⟨fun i m ys H2 => m=n - i∧i ≤ n∧ys.length=i∧H2 p=some (.lst ys)∧J i ys H2,⟨n,by simp,Nat.zero_le _,rfl,aqk,h0⟩,?_⟩
 rintro i m ys H2 ⟨rfl,hi,hyl,hp2,hJ⟩
 refine ⟨hp2,?_⟩
 by_cases hlt:i < n
 ·refine .inr ⟨hlt,by omega,fun x H3 y => ?_⟩
  obtain ⟨rfl,rfl⟩:=y
  unfold tYes
  dsimp only
  rw [if_pos rfl]
  exact he i ys _ _ hlt hJ hp2 fun y H5 hp5 hJ5 => ⟨hp5,n - (i + 1),by omega,rfl,hlt,by rw [List.length_append,hyl]; rfl,aqk,hJ5⟩
 ·have e:i=n:=by omega
  subst e
  exact .inl ⟨Nat.le_refl _,hQ ys H2 hJ hp2⟩
end
abbrev litO (t:Addr):Obj:={ cls:=.type "list_iterator",data:=.fields #[.ref t,.int 0 0] }
section
variable {prog:Program}{w:World}{A:Around}{E:Value->Shared->Prop}{s:Shared}
end
def ItZL (K:PySem.W.Frag) (a b:Addr) (xs ys:List V):It:=ItW (min xs.length ys.length) (fun H => SqL K H a xs∧SqL K H b ys) fun i _ vs => ∃ x y,xs[i]?=some x∧ys[i]?=some y∧vs=[x,y]
section
variable {X:Cx}{K:PySem.W.Frag}{elts:List Expr}{kk:Nat}{tpos:Pos}
def iZipL (K:PySem.W.Frag) (ta:TA):TI:=fun σ H R => ta σ H fun vs H1 => ∃ a b xs ys,vs=[.ref a,.ref b]∧SqL K H1 a xs∧SqL K H1 b ys∧R (ItZL K a b xs ys) H1
variable {σ:St}{H:Hp}{D:Ends}{g:TG}{tb:TS}{aa:TA}
theorem qqB:(tFor (iZipL K aa) g tb D σ H)=(aa σ H fun vs H1 => ∃ a b xs ys,vs=[.ref a,.ref b]∧SqL K H1 a xs∧SqL K H1 b ys∧LoopI (ItZL K a b xs ys) g tb D σ H1):=rfl
variable {p:Addr}{fv:St}{tt:TT}{te:TE}{Q:VK}{H1:Hp}{fr:List Nat}
theorem nqf:(tComp2 K (iZipL K aa) fr tt te σ H Q)=(aa σ H fun vs H1 => ∃ a b xs ys,vs=[.ref a,.ref b]∧SqL K H1 a xs∧SqL K H1 b ys∧∀ p,H1 p=none->CompI2 K (ItZL K a b xs ys) p (frV σ fr) tt te Q H1):=rfl
end
section
variable {K:PySem.W.Frag}{p:Addr}{fv:St}{te:TE}{Q:VK}{H1:Hp}
end
theorem oqo (t:Addr) (its:Array Value):Meets (Builtin.«enumerate.__new__» ⟨[.type "enumerate",.ref t],[]⟩) (fun _ R s => s.heap.IsList t its ∧
  R (.ok (.ret (.ref (s.heap.push (litO t)).objs.size))) { s with heap:=(s.heap.push (litO t)).push (enuO s.heap.objs.size) }) :=
 .of_wp fun prog w A R s h => by
  obtain ⟨hp,g,d,tk,os⟩:=s; obtain ⟨hl,h⟩:=h
  have hsub:=sub_enumerate
  wp_walk using wpAny_pyIter_list hl
  refine wpAny_stack_any fun _ => wpAny_pure ?_
  split
  ·rename_i z _ _ _ _ _
   cases (z == Value.type "enumerate") <;> (wp_walk using wpAny_pyIter_list hl) <;> exact ⟨_,rfl,h⟩
  ·wp_walk using wpAny_pyIter_list hl
   exact ⟨_,rfl,h⟩
section
variable {prog:Program}{w:World}{A:Around}{E:Value->Shared->Prop}{s:Shared}
theorem mqY {t:Addr}{its:Array Value}{Q:Value->Shared->Prop} (ht:s.heap.IsList t its)
  (h:∀ h',IsEnum h' (s.heap.objs.size + 1) s.heap.objs.size 0 .none->h'.IsListIter s.heap.objs.size t 0->(∀ b o,s.heap.get? b=some o->h'.get? b=some o)->Q (.ref (s.heap.objs.size + 1)) { s with heap:=h' }) :
  wpAny (model prog w) A (call (.type "enumerate") [.ref t]) Q E s:=by
 refine callType_new F.called_enumerate (by decide) (F.typeCall_enumerate_1 _) (F.newCall_enumerate_1 _) (fun obj => F.args_object_init_2 obj _) F.entry_enumerate_new (oqo t its) ⟨ht,?_⟩
 have hz:(s.heap.push (litO t)).objs.size=s.heap.objs.size + 1:=Heap.size_push ..
 show _∧_
 rw [hz]
 have he:IsEnum ((s.heap.push (litO t)).push (enuO s.heap.objs.size)) (s.heap.objs.size + 1) s.heap.objs.size 0 .none:=by
  have:=Heap.get?_push_size (s.heap.push (litO t)) (o:=enuO s.heap.objs.size) rfl
  rw [hz] at this
  exact this
 exact ⟨⟨_,he,rfl⟩,h _ he ⟨_,Heap.get?_push_of_some _ (Heap.get?_push_size _ rfl),rfl,rfl⟩ fun b o x => Heap.get?_push_of_some _ (Heap.get?_push_of_some _ x)⟩
end
def ItEL (K:PySem.W.Frag) (a:Addr) (xs:List V):It:=ItW xs.length (fun H => SqL K H a xs) fun i _ ys => ∃ v,xs[i]?=some v∧ys=[.int (i:Int),v]
theorem nqe {P:Program}{w:World}{K:PySem.W.Frag}{elts:List Expr}{k:Nat}{pos:Pos} (a it e:Addr) (xs:List V) (h1:a ≠ it) (h2:e ≠ it) (h3:e ≠ a) :
  Turn P w K (.Tuple elts k pos) (ItEL K a xs) [e,it] e (fun i h => (∃ old,IsEnum h e it i old)∧h.IsListIter it a i):=by
 refine iqv (fp:=e :: [it,a]) (α:={ its:Array Value // its.size=xs.length }) (Pt:=fun z i vals => ∃ t x,z.1[i]?=some x∧vals=#[.int i t,x])
  (Sn:=fun z i h => (∃ old,IsEnum h e it i old)∧(h.IsListIter it a i∧h.IsList a z.1)) (Mid:=fun z i T h => (∃ x,IsEnumOut h e it ((i:Int) + 1) x T)∧(h.IsListIter it a (i + 1)∧h.IsList a z.1)∧T ≠ e∧T ≠ it)
  (by simp) (fun _ z => z) (fun A z hh => ?_) (fun A i s Q E st q => ?_) (fun i h st b hb => ?_) (fun i h h' st kp => ?_) ?_ (fun z i h st => ⟨st.1,st.2.1⟩)
 ·have:=WalksT.enumerateD (Draws.list (prog:=P) (w:=w) (A:=A.in1) hh it a h1 z.1) e h2 (by simp [h2,h3]) (by simp)
  rw [z.2] at this
  exact this
 ·obtain ⟨⟨old,he⟩,_⟩:=st
  exact wpAny_pyIter_enum he q
 ·obtain ⟨⟨old,he⟩,o,ho,hc,hd⟩:=st
  rcases List.mem_cons.mp hb with rfl | hb
  ·exact ⟨_,he,fun v z => by cases z⟩
  ·rw [List.mem_singleton.mp hb]
   exact ⟨o,ho,fun v z => by rw [hd] at z; cases z⟩
 ·obtain ⟨⟨old,he⟩,o,ho,r⟩:=st
  exact ⟨⟨old,kp e (by simp) _ he⟩,o,kp it (by simp) o ho,r⟩
 ·intro X hP hw hK i pins s σ H J hf st hok
  subst hP hw hK
  obtain ⟨its,rv,p,hz⟩:=J.list hok
  refine ⟨⟨its.toArray,by have:=rv.length; simp; omega⟩,⟨st.1,st.2,p.isList⟩,?_⟩
  rintro vals ⟨t,x,hx,rfl⟩
  have hx':its[i]?=some x:=by simpa using hx
  have hi:i < xs.length:=by have:=rv.length; have:=(List.getElem?_eq_some_iff.mp hx').1; omega
  obtain ⟨u,hu,ru⟩:=rv.get (List.getElem?_eq_getElem hi)
  rw [hx'] at hu
  cases hu
  exact ⟨[.int (i:Int),xs[i]],(show 2 ≤ sizeLine by decide),.cons ⟨t,rfl⟩ (.cons ru .nil),xs[i],List.getElem?_eq_getElem hi,rfl⟩
section
variable {X:Cx}{K:PySem.W.Frag}{elts:List Expr}{kk:Nat}{tpos:Pos}
def iEnumL (K:PySem.W.Frag) (ta:TA):TI:=fun σ H R => ta σ H fun vs H1 => ∃ a xs,vs=[.ref a]∧SqL K H1 a xs∧R (ItEL K a xs) H1
theorem mqd {a:Expr}{ta:TA}{p pos:Pos} (h:X.K=K) (hg:Gl X "enumerate") (hm:X.mg "enumerate" = none) (ha:PA X [a] ta) (hs:starEach [a] X.env=[(false,eval a X.env)]:=by rfl):PI X (.Tuple elts kk tpos) (.Call (.Name "enumerate" p) [a] [] pos) (iEnumL K ta):=by
 subst h
 intro pins s σ H R I q
 refine Call_ (iqb I hg hm boot_enumerate (PyProof.Rows.callWith_type1 (thn (ha pos pins s σ H _ I q) fun us s1 W' => ?_) hs rfl))
 obtain ⟨vs,H1,I1,r1,q1⟩:=W'
 obtain ⟨a,xs,e,hq,q⟩:=q1
 subst e
 obtain ⟨u,rfl,ru⟩:=vals1 r1
 cases ru
 obtain ⟨its,rv,pt,hz⟩:=I1.list hq
 refine mqY pt.isList fun h' he hi hk => ?_
 refine wpAny_pyIter_enum (s:={ s1 with heap:=h' }) he ?_
 have hal:a < s1.heap.objs.size:=by obtain ⟨o,_,ho,_⟩:=pt; exact Heap.lt_size ho
 have hkept:Inv X pins σ H1 { s1 with heap:=h' }:=I1.kept (t':=s1.toks) hk
 refine ⟨s1.heap.objs.size + 1,[s1.heap.objs.size + 1,s1.heap.objs.size],_,_,H1,rfl,hkept,nqe a s1.heap.objs.size (s1.heap.objs.size + 1) xs (Nat.ne_of_lt hal) (Nat.succ_ne_self _) (Nat.ne_of_gt (Nat.lt_succ_of_lt hal)),⟨⟨_,he⟩,hi⟩,fun b hb => ?_,q⟩
 simp only [List.mem_cons,List.not_mem_nil,or_false] at hb
 have hb':s1.heap.objs.size ≤ b:=by
  rcases hb with rfl | rfl
  ·exact Nat.le_succ _
  ·exact Nat.le_refl _
 exact I1.fpOk hb' (I1.hok.fresh hb')
variable {σ:St}{H:Hp}{D:Ends}{g:TG}{tb:TS}{aa:TA}
theorem pqD:(tFor (iEnumL K aa) g tb D σ H)=(aa σ H fun vs H1 => ∃ a xs,vs=[.ref a]∧SqL K H1 a xs∧LoopI (ItEL K a xs) g tb D σ H1):=rfl
theorem jqp {a:Addr}{xs:List V} (Pv:Nat->St->Hp->Prop) (h0:Pv 0 σ H) (hl:∀ i σ H,i ≤ xs.length->Pv i σ H->SqL K H a xs)
  (hs:∀ i v σ H T,xs[i]?=some v->Pv i σ H->H T=none->g (.ref T) σ (upd H T (.tup [.int (i:Int),v])) fun σ2 H2 => tb { D with nx:=Pv (i + 1),ct:=Pv (i + 1),bk:=D.nx } σ2 H2) (hd:∀ σ H,Pv xs.length σ H->D.nx σ H):LoopI (ItEL K a xs) g tb D σ H :=
 hq8 Pv h0 hl (fun i σ H T ys _ p hT hy => by obtain ⟨v,hv,rfl⟩:=hy; exact hs i v σ H T hv p hT) hd
variable {p:Addr}{fv:St}{tt:TT}{te:TE}{Q:VK}{H1:Hp}{fr:List Nat}
theorem mq6:(tComp2 K (iEnumL K aa) fr tt te σ H Q)=(aa σ H fun vs H1 => ∃ a xs,vs=[.ref a]∧SqL K H1 a xs∧∀ p,H1 p=none->CompI2 K (ItEL K a xs) p (frV σ fr) tt te Q H1):=rfl
theorem nqp:(tComp2 K (iEnum K aa) fr tt te σ H Q)=(aa σ H fun vs H1 => ∃ a xs,vs=[.ref a]∧SqT K H1 a xs∧∀ p,H1 p=none->CompI2 K (ItE K a xs) p (frV σ fr) tt te Q H1):=rfl
end
end L2
namespace L2
open PySem PySem.Spec PySem.W PyProof.Rows
def SameD (h h':Heap):Prop:=∀ (b:Nat) (o:Obj),h.objs[b]?=some o->∃ o',h'.objs[b]?=some o'∧o'.dict=o.dict
theorem SameD.refl (h:Heap):SameD h h:=fun _ o e => ⟨o,e,rfl⟩
theorem SameD.trans {a b c:Heap} (x:SameD a b) (y:SameD b c):SameD a c:=fun d o e => by
 obtain ⟨o1,e1,q1⟩:=x d o e
 obtain ⟨o2,e2,q2⟩:=y d o1 e1
 exact ⟨o2,e2,q2.trans q1⟩
theorem SameD.push (h:Heap) (o:Obj):SameD h (h.push o):=fun b u e => by
 refine ⟨u,?_,rfl⟩
 have hb:b < h.objs.size:=(Array.getElem?_eq_some_iff.mp e).1
 show (h.objs.push o)[b]?=some u
 rw [Array.getElem?_push,if_neg (Nat.ne_of_lt hb)]
 exact e
theorem SameD.upd (h:Heap) (a:Addr) {f:Obj->Obj} (hf:∀ o,(f o).dict=o.dict):SameD h (h.update a f):=fun b u e => by
 show ∃ o',(h.objs.modify a f)[b]?=some o'∧_
 rw [Array.getElem?_modify]
 by_cases q:a=b
 ·rw [if_pos q,e]; exact ⟨f u,rfl,hf u⟩
 ·rw [if_neg q,e]; exact ⟨u,rfl,rfl⟩
theorem SameD.get {h h':Heap} (x:SameD h h') {b:Addr}{o o':Obj} (e:h.get? b=some o) (e':h'.get? b=some o'):o'.dict=o.dict:=by
 obtain ⟨o1,q,r⟩:=x b o (Heap.get?_some_iff.mp e).1
 have:=(Heap.get?_some_iff.mp e').1
 rw [q] at this
 cases this
 exact r
def kd {α:Type}:Sem α->Prop
 | .pure _ => True
 | .raise _ => False
 | .unsupported _ => True
 | .finish _ => True
 | .rule _ k => kd (k ())
 | .at _ k => kd (k ())
 | .load _ _ k => ∀ o,kd (k o)
 | .update _ _ f k => (∀ o,(f o).dict=o.dict)∧kd (k ())
 | .alloc _ k => ∀ a,kd (k a)
 | .loadIfAlive _ k => ∀ o,kd (k o)
 | .point _ k => kd (k ())
 | .register _ _ => True
 | .fresh k => ∀ t,kd (k t)
 | .ask k => ∀ t,kd (k t)
 | .choose _ _ k => ∀ t,kd (k t)
 | .os _ _ _ => False
 | .call _ _ _ _ _ => False
 | .handled _ k => ∀ t,kd (k t)
 | .newGen _ _ => False
 | .genState _ _ => False
 | .resume _ _ _ _ => False
 | .yield _ _ _ _ => True
 | .stack k => ∀ t,kd (k t)
 | .fork _ _ => True
 | .thread k => ∀ t,kd (k t)
 | .await _ _ _ _ _ => True
theorem aqP {α β:Type}{m:Sem α}{f:α->Sem β} (a:kd m) (b:∀ x,kd (f x)):kd (m >>= f):=by
 show kd (Sem.bind m f)
 induction m with
 | pure x => exact b x
 | raise _ => exact a.elim
 | unsupported _ => exact True.intro
 | finish _ => exact True.intro
 | rule _ k ih => exact ih () a
 | «at» _ k ih => exact ih () a
 | load _ _ k ih => exact fun o => ih o (a o)
 | update _ _ g k ih => exact ⟨a.1,ih () a.2⟩
 | alloc _ k ih => exact fun o => ih o (a o)
 | loadIfAlive _ k ih => exact fun o => ih o (a o)
 | point _ k ih => exact ih () a
 | register _ k ih => exact True.intro
 | fresh k ih => exact fun o => ih o (a o)
 | ask k ih => exact fun o => ih o (a o)
 | choose _ _ k ih => exact fun o => ih o (a o)
 | os _ _ k ih => exact a.elim
 | call _ _ _ _ k ih => exact a.elim
 | handled _ k ih => exact fun o => ih o (a o)
 | newGen _ k ih => exact a.elim
 | genState _ k ih => exact a.elim
 | resume _ _ _ k ih => exact a.elim
 | yield _ _ _ k ih => exact True.intro
 | stack k ih => exact fun o => ih o (a o)
 | fork _ k ih => exact True.intro
 | thread k ih => exact fun o => ih o (a o)
 | await _ _ _ _ k ih => exact True.intro
theorem uq5 {α:Type}{M:Model}{Γ:PySem.Ctx} (t:Sem α):∀ {Q:α->Pos->Shared->Prop}{E:Value->Pos->Shared->Prop}{p:Pos}{s:Shared},kd t->Sem.wp M Γ t Q E p s ->
  Sem.wp M Γ t (fun a p' s' => Q a p' s'∧SameD s.heap s'.heap) (fun _ _ _ => False) p s:=by
 induction t with
 | pure x => intro Q E p s _ h; exact ⟨h,.refl _⟩
 | raise _ => intro Q E p s a h; exact a.elim
 | unsupported _ => intro Q E p s _ h; exact h.elim
 | finish _ => intro Q E p s _ h; exact h.elim
 | rule _ k ih => intro Q E p s a h; exact ih () a h
 | «at» _ k ih => intro Q E p s a h; exact ih () a h
 | load _ _ k ih => intro Q E p s a h; obtain ⟨o,e,h⟩:=h; exact ⟨o,e,ih o (a o) h⟩
 | update x _ g k ih =>
  intro Q E p s a h
  obtain ⟨e,h⟩:=h
  exact ⟨e,Sem.wp_mono M Γ (k ()) (fun _ _ _ z => ⟨z.1,(SameD.upd _ _ a.1).trans z.2⟩) (fun _ _ _ z => z) _ _ (ih () a.2 h)⟩
 | alloc o k ih => intro Q E p s a h; exact Sem.wp_mono M Γ (k _) (fun _ _ _ z => ⟨z.1,(SameD.push _ _).trans z.2⟩) (fun _ _ _ z => z) _ _ (ih _ (a _) h)
 | loadIfAlive _ k ih => intro Q E p s a h; exact ih _ (a _) h
 | point _ k ih => intro Q E p s a h; exact ih () a h
 | register _ k ih => intro Q E p s _ h; exact h.elim
 | fresh k ih => intro Q E p s a h; exact ih _ (a _) h
 | ask k ih => intro Q E p s a h; exact ih _ (a _) h
 | choose _ _ k ih => intro Q E p s a h; exact ⟨h.1,ih _ (a _) h.2⟩
 | os _ _ k ih => intro Q E p s a h; exact a.elim
 | call _ _ _ _ k ih => intro Q E p s a h; exact a.elim
 | handled _ k ih => intro Q E p s a h; exact ih _ (a _) h
 | newGen _ k ih => intro Q E p s a h; exact a.elim
 | genState _ k ih => intro Q E p s a h; exact a.elim
 | resume _ _ _ k ih => intro Q E p s a h; exact a.elim
 | yield _ _ _ k ih => intro Q E p s a h; exact h.elim
 | stack k ih => intro Q E p s a h; exact ih _ (a _) h
 | fork _ k ih => intro Q E p s a h; exact h.elim
 | thread k ih => intro Q E p s a h; exact ih _ (a _) h
 | await _ _ _ _ k ih => intro Q E p s a h; exact h.elim
theorem dq9 {α:Type}{M:Model}{A:Around}{t:Sem α}{Q:α->Shared->Prop}{E:Value->Shared->Prop}{s:Shared} (k:kd t) (h:wpAny M A t Q E s):wpAny M A t (fun a s' => Q a s'∧SameD s.heap s'.heap) (fun _ _ => False) s :=
 fun Γ p hΓ => uq5 t k (h Γ p hΓ)
theorem lqU (v:Value):kd (fieldsOf v):=by
 cases v <;> first | exact True.intro | (refine aqP (fun _ => True.intro) fun o => ?_; split <;> exact True.intro)
theorem hqE (v:Value) (i:Nat):kd (field v i):=by
 refine aqP (lqU v) fun x => ?_
 split <;> exact True.intro
theorem fqJ (v:Value) (i:Nat) (x:Value):kd (setField v i x):=by
 cases v <;> first | exact True.intro | skip
 refine aqP (fun _ => True.intro) fun o => ?_
 split
 ·split
  ·refine ⟨fun o => ?_,True.intro⟩
   unfold Obj.mapFields
   first | rfl | (split <;> rfl) | (cases o; rename_i d _; cases d <;> rfl)
  ·exact True.intro
 ·exact True.intro
theorem dqu (e:Value) (f:Option Addr):kd (setFlight e f):=by
 refine aqP (hqE e 1) fun tb => ?_
 try dsimp only
 split
 ·exact fqJ _ _ _
 ·exact True.intro
theorem fqy:∀ l:List Env,kd (readyFrames l)
 | [] => True.intro
 | env :: outer => by
  unfold readyFrames
  split
  ·refine aqP (fun _ => True.intro) fun o => ?_
   try dsimp only
   split
   ·exact True.intro
   ·refine aqP ?_ fun im => ?_
    ·unfold behindIsImport
     try dsimp only
     split
     ·exact True.intro
     ·split
      ·exact True.intro
      ·exact aqP (hqE _ _) fun _ => True.intro
    ·refine aqP ?_ fun bk => ?_
     ·unfold keptBack
      split
      ·split
       ·exact True.intro
       ·exact aqP (aqP (fun _ => True.intro) fun _ => True.intro) fun _ => by split <;> exact True.intro
      ·exact True.intro
     ·exact aqP ⟨fun _ => rfl,True.intro⟩ fun _ => fqy outer
  ·exact True.intro
theorem mqX (env:Env):kd (PySem.frameOf env):=by
 unfold PySem.frameOf
 refine aqP (aqP (fun _ => True.intro) fun _ => True.intro) fun l => aqP ?_ fun r => ?_
 ·unfold frameObject
  split
  ·exact True.intro
  ·exact aqP (fqy _) fun _ => True.intro
 ·split <;> exact True.intro
theorem lqc (ty:String) (vs:List Value):kd (newFields ty vs):=by
 unfold newFields newObj newObjAsIs
 try dsimp only
 split
 ·exact True.intro
 ·exact fun _ => True.intro
theorem gq5 (e:Value) (env:Env):kd (noteFrame e env):=by
 unfold noteFrame
 split
 ·refine aqP (hqE e 1) fun hd => ?_
  try dsimp only
  have rest:∀ (x:Unit) (f:Addr) (hd:Value),kd (do setField e 1 (<- EntryCells.newEntry hd (<- PySem.frameOf env) .none (rawInt f) .none (<- entryPlaceOf f (hd != .none))):Sem Unit):=fun _ f hd => by
   refine aqP (mqX env) fun _ => aqP ?_ fun _ => aqP ?_ fun _ => fqJ _ _ _
   ·unfold entryPlaceOf
    refine aqP (fun _ => True.intro) fun acts => ?_
    split <;> exact True.intro
   ·unfold EntryCells.newEntry
    exact lqc _ _
  split
  ·refine aqP (hqE _ _) fun g => ?_
   try dsimp only
   split
   ·exact True.intro
   ·exact aqP (fqJ _ _ _) fun _ => rest () _ _
  ·exact rest () _ _
 ·exact True.intro
theorem gqD (env:Env) (e:Value):kd (leaving env e):=aqP (gq5 e env) fun _ => dqu e none
end L2
namespace L2
open PySem PySem.Spec PySem.W PySem.Calls PyProof.Rows PySem.Builtin PySem.Builtin.ObjectAttr
def errTail:List Value->Bool
 | .ref _ :: r => errTail r
 | l => l == vErr
theorem iqU (self:Value):∀ {l:List Value},errTail l=true->refuseLoop self "__setattr__" l=pure ()
 | [],e => by cases e
 | v :: r,e => by
  cases v <;> first | (rw [refuseLoop_ref]; exact iqU self (by unfold errTail at e; exact e)) | (rw [show (_ :: r)=vErr from beq_iff_eq.mp e]; exact PySem.F.store_ValueError.passes self)
theorem nq1:∀ {l:List Value},errTail l=true->l.contains (.type "object")=true
 | [],e => by cases e
 | v :: r,e => by
  cases v <;> first | (rw [List.contains_cons,nq1 (l:=r) (by unfold errTail at e; exact e),Bool.or_true]) | (rw [show (_ :: r)=vErr from beq_iff_eq.mp e]; decide +kernel)
def overErr (K:Frag) (C:Addr):Bool:=(clsIn K C).any fun cd => errTail cd.mro
section
variable {prog:Program}{w:World}{A:Around}{E:Value->Shared->Prop}{s:Shared}{K:Frag}{x C:Addr}{name:Str}{v:Value}{ox:Obj}{od:Option Obj}
theorem rq9 {tk:Tok}{R:Result->Shared->Prop} (X:K.In s.heap) (I:PySem.W.InstAt s.heap x ox C od) (hp:overErr K C=true) (ht:takerIn K C name=some none)
  (h:∀ b,wpAny (model prog w) A.in1 (storeInOwnDict (.ref x) (.ref C) (.str name tk) name v b)
   (fun fin s' => match fin with | .done f => R (.ok f) s' | .again c' => c'.quiet=true∧codeAny (model prog w) A c' R s') (fun e s' => R (.error e) s') s) :
  codeAny (model prog w) A (.call (.builtin "object.__setattr__") ⟨[.ref x,.str name tk,v],[]⟩) R s:=by
 have SF:=PySem.F.store_object
 obtain ⟨cd,hc,ho⟩:=any_some hp
 have ne:cd.mro.isEmpty=false:=by cases q:cd.mro with | nil => rw [q] at ho; cases ho | cons _ _ => rfl
 have sub:Looks (model prog w) s.heap (isInstance (.ref x) (.type "object")) true:=I.type.andThen (looks_mroIn X (by unfold mroIn; rw [hc,Option.bind_some,if_neg (by rw [ne]; decide),nq1 ho]))
 refine codeAny_call_builtin SF.slot.plain SF.entry (@check_slot (model prog w) _ _ s "object.__setattr__" "object" "__setattr__" (.ref x) [.str name tk,v] [] _ SF.kind SF.split sub (SF.args (.ref x) (.str name tk) v) ?_)
 obtain ⟨attr,ha,hr⟩:=Option.bind_eq_some_iff.mp ht
 have hm:Looks (model prog w) s.heap (mroOf (.ref C)) cd.mro:=(looks_clsIn X hc).andThen .now
 have L3:Looks (model prog w) s.heap (storeTaker? attr) none:=by
  cases attr with
  | none => exact .now
  | some a =>
   obtain ⟨b,hb,hbn⟩:=Option.map_eq_some_iff.mp hr
   refine (looks_takesIn X hb).andThen ?_
   cases b with
   | true => cases hbn
   | false => exact .now
 rw [osa_eq,refuse_eq]
 refine wpAny_bind (wpAny_bind (I.type.here (wpAny_bind (hm.here ?_))))
 rw [iqU _ ho]
 refine wpAny_pure (wpAny_bind (I.type.here (wpAny_bind ((looks_findIn X ha).here (wpAny_bind (L3.here ?_))))))
 exact h _
theorem rqK {Q:Unit->Shared->Prop} (X:K.In s.heap) (hx:s.heap.get? x=some ox) (hc:ox.cls=.ref C) (hd:ox.dict=none) (hn:notCls ox=true)
  (hs:findIn K (.ref C) "__setattr__" = some (some (.builtin "object.__setattr__"))) (hp:overErr K C=true) (ht:takerIn K C name=some none) (hh:hasDictIn K C=true)
  (h:∀ h' tk,h'.get? x=some { ox with dict:=some s.heap.objs.size }->h'.Ns1 s.heap.objs.size (fun y => if y=name then some v else none)->(∀ b o,b ≠ x->s.heap.get? b=some o->h'.get? b=some o)->Q () { s with heap:=h',toks:=tk }) :
  wpAny (model prog w) A (setAttr (.ref x) name v) Q E s:=by
 have J:PySem.W.InstAt s.heap x ox C none:=⟨hx,hc,hn,by rw [hd]; exact True.intro⟩
 refine PySem.W.set_plain X J hs (rq9 (s:={ s with toks:=s.toks + 1 }) X J hp ht fun b => ?_)
 obtain ⟨cd,hcd,hd'⟩:=any_some hh
 obtain ⟨oc,odi,oda,osl⟩:=ox
 dsimp only at hc hd
 subst hc hd
 refine wpAny_bind (wpAny_pure (wpAny_bind (wpAny_bind (wpAny_loadPart hx (wpAny_bind (Looks.here (s:={ s with toks:=s.toks + 1 }) (looks_clsIn X hcd) ?_))))))
 rw [hd']
 have nc:∀ c,oda ≠ .cls c:=fun c q => by subst q; cases hn
 have hx₁:(s.heap.push { cls:=.type "dict",data:=.dict #[] }).get? x=some ⟨.ref C,none,oda,osl⟩:=Heap.get?_push_of_some _ hx
 have hxs:x ≠ s.heap.objs.size:=Nat.ne_of_lt (Heap.lt_size hx)
 have hgd:((s.heap.push { cls:=.type "dict",data:=.dict #[] }).update x fun o => { o with dict:=some s.heap.objs.size }).get? s.heap.objs.size=some { cls:=.type "dict",data:=.dict #[] } :=
  (Heap.get?_update_ne _ _ _ _ hxs.symm).trans (Heap.get?_push_at rfl rfl)
 have hnd:((s.heap.push { cls:=.type "dict",data:=.dict #[] }).update x fun o => { o with dict:=some s.heap.objs.size }).Ns s.heap.objs.size (fun _ => none) :=
  ⟨_,#[],_,hgd,rfl,fun e he => absurd he (by simp),fun _ => rfl⟩
 have fin:wpAny (model prog w) A.in1 (storeInDict s.heap.objs.size (.str name (s.toks)) name v)
   (fun fin s' => match fin with | .done f => (match (Except.ok f:Result) with | .ok (.ret _) => Q () s' | .ok _ => False | .error e => E e s') | .again c' => c'.quiet=true∧codeAny (model prog w) A c' (fun r s' => match r with | .ok (.ret _) => Q () s' | .ok _ => False | .error e => E e s') s') (fun e s' => E e s')
   { s with heap:=((s.heap.push { cls:=.type "dict",data:=.dict #[] }).update x fun o => { o with dict:=some s.heap.objs.size }),toks:=s.toks + 1 }:=by
  unfold storeInDict newKeyGuard
  refine wpAny_bind (wpAny_pure (wpAny_bind (wpAny_nsSet1 (s:={ s with heap:=((s.heap.push { cls:=.type "dict",data:=.dict #[] }).update x fun o => { o with dict:=some s.heap.objs.size }),toks:=s.toks + 1 }) (Heap.Ns1.of_empty hnd) fun h' hn' hs' => ?_)))
  obtain ⟨oD,esD,epD,hoD,hdD,hcD⟩:=hn'.count (Within.cons name v Within.nil)
  refine wpAny_bind (wpAny_lookBehind hoD (by rw [hdD]; exact pastItsLine_dict (Nat.le_trans hcD (by rw [List.length_cons,List.length_nil,sizeLine_eq]; omega))) ?_)
  refine wpAny_pure (h h' _ ?_ hn' fun b o hb e => ?_)
  ·refine (hs'.2 x hxs).trans (Heap.get?_update_self _ hx₁ ?_)
   have hfr:=(Heap.get?_some_iff.mp hx).2
   cases oda <;> first | rfl | exact hfr
  ·exact (hs'.2 b (Nat.ne_of_lt (Heap.lt_size e))).trans ((Heap.get?_update_ne _ _ _ _ hb).trans (Heap.get?_push_of_some _ e))
 cases oda <;> first | exact absurd rfl (nc _) | exact wpAny_bind (wpAny_alloc' (wpAny_bind (wpAny_update' hx₁ (wpAny_pure fin))))
end
end L2
namespace L2
open PySem PySem.Spec PySem.W PySem.Calls PyProof.Rows
def excInI (K:Frag) (C:Addr) (bmB:List Value) (newId:String) (fI:Addr):Bool:=match K.lookup C with
 | some o => (match o.data with
  | .cls cd => o.cls == .type "type" && cd.mro.head? == some (.ref C) && o.slots.size == 6 && o.slots[4]? == some (some (.builtin newId)) && !cd.hasDel && tailIn K bmB cd.mro.tail && nsOkIn K cd.ns && nsIn K cd.ns "__init__" == some (some (.ref fI))
  | _ => false)
 | _ => false
theorem sqk {K:Frag}{h:Heap}{N:Addr}{m:Str->Option Value}{n:Str}{v:Value} (X:K.In h) (G:h.Ns N m) (e:nsIn K N n=some (some v)):m n=some v:=by
 obtain ⟨o,es,ep,ho,hd,_,hf⟩:=G
 unfold nsIn at e
 split at e
 ·next q =>
  have:=X _ _ q
  rw [ho] at this
  cases this
  cases hd
  split at e
  ·next he =>
   cases e
   rw [<- hf]
   unfold nsFind findBy
   rw [<- Array.find?_toList,he]
   rfl
  ·split at e <;> cases e
 ·cases e
theorem excObjI {K:Frag}{h:Heap}{C fI:Addr}{bb:List Value}{nid:String} (kin:K.In h) (q:excInI K C bb nid fI=true) :
  ∃ tl N nm qn bs hd sn sub ab col dd k0 k1 k2 k3 k5,h.get? C=some (excClassObj nm qn C N bs tl hd sn sub ab col dd k0 k1 k2 k3 k5 nid)∧(∃ mN,h.Ns N mN∧mN "__init__" = some (.ref fI))∧OwnTail h bb tl:=by
 unfold excInI at q
 generalize lk:K.lookup C=r at q
 obtain _ | ⟨cl,dd,dat,⟨sl⟩⟩:=r
 ·cases q
 cases dat <;> first | cases q | skip
 next cd =>
 simp only [beq_iff_eq,Bool.and_eq_true,Bool.not_eq_true'] at q
 obtain ⟨⟨⟨⟨⟨⟨⟨rfl,e0⟩,e1⟩,e2⟩,e3⟩,e4⟩,e5⟩,e6⟩:=q
 obtain ⟨nm,bs,mro,ns,qn,hd,sn,sub,ab,col,del⟩:=cd
 cases e3
 obtain _ | ⟨m0,tl⟩:=mro
 ·cases e0
 cases e0
 obtain _ | ⟨a0,_ | ⟨a1,_ | ⟨a2,_ | ⟨a3,_ | ⟨a4,_ | ⟨a5,_ | ⟨a6,l⟩⟩⟩⟩⟩⟩⟩:=sl <;> first | cases e1 | skip
 cases e2
 exact ⟨tl,ns,nm,qn,bs,hd,sn,sub,ab,col,dd,a0,a1,a2,a3,a5,kin _ _ lk,⟨_,.of_isNs (isNs_of_in kin e5),sqk kin (.of_isNs (isNs_of_in kin e5)) e6⟩,tail_of_in kin e4⟩
abbrev newExc (C t:Addr):Obj:={ cls:=.ref C,data:=.fields #[.ref t,.none,.none,.none,.bool false,.none] }
abbrev newTup (vs:List Value):Obj:={ cls:=.type "tuple",data:=.seq vs.toArray }
section
variable {prog:Program}{w:World}{A:Around}{E:Value->Shared->Prop}{h:Heap}{g:Array GenState}{d:Drawn}{t:Nat}{os:OsState}
variable {nm q:Str}{C N:Addr}{bs bm bmB:List Value}{hdct:Bool}{sn:List Str}{sub:List Value}{ab:Bool}{col:Option Bool}{dd:Option Addr}{k0 k1 k2 k3 k5:Option Value}{B newId initId:String}
theorem iqA (F:ExcBaseFacts B newId initId bmB) (T:OwnTail h bmB bm) {mN:Str->Option Value}{rest:List Value}{fI:Addr}{oI:Obj}{Q:Fin->Shared->Prop}
  (hC:h.get? C=some (excClassObj nm q C N bs bm hdct sn sub ab col dd k0 k1 k2 k3 k5 newId)) (hn:h.Ns N mN) (hi:mN "__init__" = some (.ref fI))
  (hfI:h.get? fI=some oI) (hfc:oI.cls=.type "function")
  (hq:wpAny (model prog w) A (call (.ref fI) (.ref (h.objs.size + 1) :: rest)) (fun r s' => r=.none∧Q (.done (.ret (.ref (h.objs.size + 1)))) s') E ⟨(h.push (newTup rest)).push (newExc C h.objs.size),g,d,t,os⟩) (hrest:rest.length ≤ sizeLine) :
  wpAny (model prog w) A (Builtin.«type.__call__» ⟨.ref C :: rest,[]⟩) Q E ⟨h,g,d,t,os⟩:=by
 repeat (first | with_reducible refine wpAny_loadPart_at hC ?_ | with_reducible refine wpAny_madeBy_exc hC ?_ | wp_step)
 refine codeAny_call_builtin_code (Code.quiet_builtin _ F.quiet) (wpAny_check_new_subU F F.hasB T hC ?_)
 refine codeAny_exc_new_subU F F.hasB F T hC ?_ hrest
 show wpAny _ _ _ _ _ _
 have kp:∀ b o,h.get? b=some o->((h.push (newTup rest)).push (newExc C h.objs.size)).get? b=some o:=fun b o e => Heap.get?_push_of_some _ (Heap.get?_push_of_some _ e)
 have hC₁:=kp _ _ hC
 have hfI₁:=kp _ _ hfI
 have hn₁:((h.push (newTup rest)).push (newExc C h.objs.size)).Ns N mN:=hn.keeps kp
 have hget:((h.push (newTup rest)).push (newExc C h.objs.size)).get? (h.objs.size + 1)=some (newExc C h.objs.size):=by heap_get
 have hcC:(Value.ref C :: bm).contains (.ref C)=true:=by simp
 have T₁:=T.keeps kp
 unfold isInstance
 repeat (first | with_reducible refine wpAny_loadPart_at hget ?_ | (with_reducible refine wpAny_isSubtype_exc hC₁ ?_; rw [hcC]) | wp_step)
 show wpAny _ _ (typeLookup (.ref C) _) _ _ _
 refine wpAny_typeLookup_tail hC₁ hn₁ T₁ F.mroIs F.init.lookup ?_
 rw [hi]
 refine wpAny_holding (wpAny_bind ?_)
 unfold bindSpecial
 refine wpAny_bind (wpAny_typeOf (T := "function") ⟨_,hfI₁,hfc⟩ ?_)
 rw [if_pos (by decide)]
 refine wpAny_pure (wpAny_bind (wpAny_mono hq (fun r s' hr => ?_) fun _ _ x => x))
 obtain ⟨rfl,hQ⟩:=hr
 wp_walk
 exact hQ
theorem oqB (F:ExcBaseFacts B newId initId bmB) (T:OwnTail h bmB bm) {mN:Str->Option Value}{rest:List Value}{fI:Addr}{oI:Obj}{Q:Value->Shared->Prop}
  (hC:h.get? C=some (excClassObj nm q C N bs bm hdct sn sub ab col dd k0 k1 k2 k3 k5 newId)) (hn:h.Ns N mN) (hi:mN "__init__" = some (.ref fI))
  (hfI:h.get? fI=some oI) (hfc:oI.cls=.type "function")
  (hq:wpAny (model prog w) (A.under (.builtin "type.__call__" ⟨.ref C :: rest,[]⟩)) (call (.ref fI) (.ref (h.objs.size + 1) :: rest)) (fun r s' => r=.none∧Q (.ref (h.objs.size + 1)) s') E ⟨(h.push (newTup rest)).push (newExc C h.objs.size),g,d,t,os⟩) (hrest:rest.length ≤ sizeLine) :
  wpAny (model prog w) A (call (.ref C) rest) Q E ⟨h,g,d,t,os⟩:=by
 have f1:=tc_lookup
 have f2:=tc_bind (.ref C)
 have hT:(⟨h,g,d,t,os⟩:Shared).TypeIs (.ref C) "type" := ⟨_,hC,rfl⟩
 refine wpAny_call (codeAny_of_tree ?_)
 show wpAny _ _ (callAny (.ref C) _) _ _ _
 repeat (any_goals (first | assumption | with_reducible refine wpAny_loadPart_at hC ?_ | wp_step))
 refine ⟨rfl,?_⟩
 exact codeAny_call_builtin_at (Code.quiet_builtin _ (by decide +kernel)) entry_typeCall (wpAny_check_type_call_sub hC (iqA (hrest:=hrest) F T hC hn hi hfI hfc hq))
theorem jqN {M:Model}{s:Shared}{env:Env}{x:Sem Value}{Q:Flow->Shared->Prop} (hbase:bm.contains (.type "BaseException")=true) (hh:A.handled=none)
  (h:wpAny M A x (fun v s₁ => ∃ e t dx sl,v=.ref e∧s₁.heap.get? C=some (excClassObj nm q C N bs bm hdct sn sub ab col dd k0 k1 k2 k3 k5 newId) ∧
   s₁.heap.get? e=some ⟨.ref C,dx,.fields #[.ref t,.none,.none,.none,.bool false,.none],sl⟩∧E (.ref e) s₁) E s) :
  wpAny M A (raiseStmt env (some x) none) Q E s:=by
 have hcB:(Value.ref C :: bm).contains (.type "BaseException")=true:=by rw [List.contains_cons,hbase,Bool.or_true]
 unfold raiseStmt
 refine wpAny_bind (wpAny_mono h (fun v s₁ h₁ => ?_) fun _ _ x => x)
 obtain ⟨e,t,dx,sl,rfl,hC,he,hE⟩:=h₁
 obtain ⟨hp,g,d,tk,os⟩:=s₁
 repeat (first | with_reducible refine wpAny_loadPart_at he ?_ | with_reducible refine wpAny_loadPart_at hC ?_ | (with_reducible refine wpAny_isSubtype_exc hC ?_; rw [hcB]) | wp_step)
 exact wpAny_raiseNew_none hh hE
end
def exNew (e C:Addr):HO:=.ext fun h => ∃ t sl,h.get? e=some ⟨.ref C,none,.fields #[.ref t,.none,.none,.none,.bool false,.none],sl⟩
def exSet (e C d:Addr):HO:=.ext fun h => ∃ t sl,h.get? e=some ⟨.ref C,some d,.fields #[.ref t,.none,.none,.none,.bool false,.none],sl⟩
def exC (a C:Addr) (d:Option Addr):HO:=.ext fun h => ∃ o,h.get? a=some o∧o.cls=.ref C∧(∀ x,d=some x->o.dict=some x)∧notCls o=true
structure ExSt (K:Frag) (C:Addr) (f:Str):Prop where
 sa:findIn K (.ref C) "__setattr__" = some (some (.builtin "object.__setattr__"))
 po:overErr K C=true
 na:findIn K (.ref C) f=some none
 hd:hasDictIn K C=true
def sFldE (K:Frag) (ta tv:TE) (f:Str):TS:=fun D σ H => tv σ H fun y H1 => ta σ H1 fun x H2 => ∃ a C,x=.ref a∧H2 a=some (exNew a C)∧ExSt K C f∧∀ d,H2 d=none->D.nx σ (upd (upd H2 a (exSet a C d)) d (.xd [(f,y)]))
section
variable {X:Cx}{ta tv:TE}{o value:Expr}{f:Str}{pos pos':Pos}
theorem rqR (ha:PE X o ta) (hv:PE X value tv) (hs:swapsWith value (some (.Attribute o f pos')) pos.line X.env=pure false):PS X (.Assign [.Attribute o f pos'] value pos) (sFldE X.K ta tv f):=by
 intro pins s σ H D I h
 refine plainObj_wpAny_Assign_Attribute (thn (hv pins s σ H _ I h) fun u s1 ⟨y,H1,I1,ry,q⟩ => thn (ha pins s1 σ H1 _ I1 q) fun ov s2 W' => ?_) hs
 obtain ⟨x,H2,I2,rx,a,C,ex,ea,c,q2⟩:=W'
 subst ex
 obtain rfl:ov=Value.ref a:=rx
 obtain ⟨⟨t,sl,hx⟩,_,_⟩:=I2.hok a _ ea
 refine rqK I2.kIn hx rfl rfl rfl c.sa c.po (NoAttr.taker (show NoAttr X.K C f from c.na)) c.hd fun h' tk e1 e2 e3 => ?_
 have hd:H2 s2.heap.objs.size=none:=I2.hok.fresh (Nat.le_refl _)
 have na:∀ b u,H2 b=some u->u ≠ exNew a C->b ≠ a:=fun b u q n z => by subst z; rw [ea] at q; exact n (Option.some.inj q).symm
 have nd:∀ b u,s2.heap.get? b=some u->b ≠ s2.heap.objs.size:=fun b u q => Nat.ne_of_lt (Heap.lt_size q)
 have nf:∀ b,H2 b=none->b ≠ a:=fun b q z => by subst z; rw [ea] at q; cases q
 have ndh:∀ b u,H2 b=some u->b ≠ s2.heap.objs.size:=fun b u q => aql q hd
 refine ⟨σ,upd (upd H2 a (exSet a C s2.heap.objs.size)) s2.heap.objs.size (.xd [(f,y)]),I2.un (t':=tk) ⟨fun b ob q n _ _ => e3 b ob (nf b n) q,fun b ob q n _ _ => ⟨ob.slots,e3 b ob (nf b n) q⟩,fun b ob q n _ => ?_,fun b ob q _ => ?_,fun b xs q => ?_,fun b ob u q => ?_,fun b ps q => ?_⟩ (fun b u q => ?_),q2 _ hd⟩
 ·rw [aqq (nd b ob q),aqq (nf b n)]; exact n
 ·by_cases z:b=a
  ·subst z; exact ⟨_,e1⟩
  ·exact ⟨ob,e3 b ob z q⟩
 ·rw [aqq (ndh b _ q),aqq (na b _ q (by intro z; cases z))]; exact q
 ·rw [aqq (ndh b _ q),aqq (na b _ q (by intro z; cases z))]; exact q
 ·exact ⟨#[],by rw [aqq (ndh b _ q),aqq (na b _ q (by intro z; cases z)),Array.append_empty]; exact q⟩
 ·by_cases zd:b=s2.heap.objs.size
  ·subst zd
   rw [aqk] at q
   cases q
   refine ⟨_,e2,fun g => ?_⟩
   by_cases z:g=f
   ·subst z
    rw [if_pos rfl]
    simp only [List.lookup,beq_self_eq_true]
    exact ry
   ·rw [if_neg z]
    simp only [List.lookup,beq_eq_false_iff_ne.mpr z]
    exact True.intro
  ·rw [aqq zd] at q
   by_cases za:b=a
   ·subst za
    rw [aqk] at q
    cases q
    exact ⟨⟨t,sl,e1⟩,⟨_,e1⟩,fun h1 h2 ⟨t,sl,z⟩ k => ⟨t,sl,k _ z⟩⟩
   ·rw [aqq za] at q
    refine (I2.hok b u q).stay (fun c v hc z => e3 c v ?_ z) (fun c z => ?_) fun c xs z => ?_
    ·rcases hc with rfl | hc
     ·exact za
     ·exact na c _ hc (by intro z; cases z)
    ·rw [aqq (ndh c _ z),aqq (na c _ z (by intro z; cases z))]; exact z
    ·rw [aqq (ndh c _ z),aqq (na c _ z (by intro z; cases z))]; exact z
theorem rqQ {K:Frag}{D:Ends}{σ:St}{H:Hp}:(sFldE K ta tv f D σ H)=(tv σ H fun y H1 => ta σ H1 fun x H2 => ∃ a C,x=.ref a∧H2 a=some (exNew a C)∧ExSt K C f∧∀ d,H2 d=none->D.nx σ (upd (upd H2 a (exSet a C d)) d (.xd [(f,y)]))):=rfl
end
def forget (H:Hp) (a:Addr):Hp:=fun b => if b=a then none else H b
theorem lqu {H:Hp}{a:Addr}:forget H a a=none:=if_pos rfl
theorem bqP {H:Hp}{a b:Addr} (h:b ≠ a):forget H a b=H b:=if_neg h
structure FlownN (P:Program) (w:World) (base:Heap) (outer:List Env) (H:Hp) (s:Shared) (a t C:Addr) (d:Option Addr) (B:Heap) (H':Hp) (s':Shared):Prop where
 f:Flown P w base outer H s a t C B H' s'
 dc:∀ x,d=some x->∃ oe,s'.heap.get? a=some oe∧oe.dict=some x
def CXN (P:Program) (w:World) (base:Heap):CXT:=fun outer H s E e s' => ∃ (a t C:Addr) (d:Option Addr) (B:Heap) (H':Hp),e=.ref a∧E (.ref C) d H'∧FlownN P w base outer H s a t C d B H' s'
theorem Inv.xe {X:Cx}{pins:List (Addr × Obj)}{σ:St}{H:Hp}{s:Shared} (y:Value->Shared->Prop) (I:Inv X pins σ H s):Inv { X with xe:=y } pins σ H s :=
 ⟨⟨I.ok.mod,I.ok.kind,I.ok.glob,I.ok.blt,I.ok.above,I.ok.inj,I.ok.has,I.ok.cab,I.ok.hd,I.ok.frames,I.ok.stk,I.ok.exf,I.ok.bs,I.ok.bsz,I.ok.noex,I.ok.exfs,I.ok.funs,I.ok.frf⟩,I.os,I.bare,I.base,I.loc,I.cell,I.free,I.freeC,I.pin,I.hok,I.len⟩
section
variable {P:Program}{w:World}{K:Frag}{mg:Str->Option Value}{base:Heap}{N:List Str}{qual:Str}{scope:Scope}{f:Addr}{cd:Value}{A:Around}{outer:List Env}{s:Shared}{H:Hp}{E:XK}
theorem fqs:Passes (CXN P w base) (cxOf (CXN P w base) P w K mg base N qual scope f cd A outer s H E) E:=by
 intro pins σ H1 s1 e s2 I hq
 obtain ⟨a,t,C,d,B,H2,rfl,hE,W⟩:=hq
 have I':Inv (cxOf (CXE P w base) P w K mg base N qual scope f cd A outer s H fun c _ H' => E c d H') pins σ H1 s1:=I.xe _
 have z:=oqk (E:=fun c _ H' => E c d H') pins σ H1 s1 (.ref a) s2 I' ⟨a,t,C,B,H2,rfl,hE,W.f⟩
 refine wpAny_mono (dq9 (gqD _ _) z) (fun _ s3 W' => ?_) fun _ _ z => z.elim
 obtain ⟨⟨a',t',C',B',H',ea,hE',W'⟩,sd⟩:=W'
 cases ea
 refine ⟨a,t',C',d,B',H',rfl,hE',W',fun x hx => ?_⟩
 obtain ⟨oe,ho,hd⟩:=W.dc x hx
 obtain ⟨ob,hob,_⟩:=W'.fly.there
 exact ⟨ob,hob,(sd.get ho hob).trans hd⟩
theorem mq4 {pins:List (Addr × Obj)}{σ:St}{H1:Hp}{s1:Shared}{h':Heap}{e C:Addr} (I:Inv (cxOf (CXN P w base) P w K mg base N qual scope f cd A outer s H E) pins σ H1 s1) (hm:Heap.MadeExcOf s1.heap h' e (.ref C) []) (hE:E (.ref C) none H1) :
  (cxOf (CXN P w base) P w K mg base N qual scope f cd A outer s H E).xe (.ref e) { s1 with heap:=h' }:=by
 have I':Inv (cxOf (CXE P w base) P w K mg base N qual scope f cd A outer s H fun c _ H' => E c none H') pins σ H1 s1:=I.xe _
 refine wpAny_mono (dq9 (gqD _ _) (oqD (E:=fun c _ H' => E c none H') pins σ H1 s1 h' e C I' hm hE)) (fun _ s3 W' => ?_) fun _ _ z => z.elim
 obtain ⟨⟨a',t',C',B',H',ea,hE',W'⟩,sd⟩:=W'
 exact ⟨a',t',C',none,B',H',ea,hE',W',fun x hx => by cases hx⟩
theorem raisesN:Raises (cxOf (CXN P w base) P w K mg base N qual scope f cd A outer s H E) E:=fun _ _ _ _ _ _ _ I hm hE => mq4 I hm hE
def Raises1 (X:Cx) (E:XK):Prop:=∀ (pins:List (Addr × Obj)) (σ:St) (H:Hp) (s:Shared) (a C d:Addr),Inv X pins σ H s->H a=some (exSet a C d)->X.s₀.heap.objs.size ≤ a->E (.ref C) (some d) (forget H a)->X.xe (.ref a) s
theorem jqi:Raises1 (cxOf (CXN P w base) P w K mg base N qual scope f cd A outer s H E) E:=by
 intro pins σ H1 s1 e C d I ha hsz hE
 have hf:(envOfC qual scope s.heap.objs.size f cd).frame=some s.heap.objs.size:=rfl
 have stk:s1.heap.FunFrames base (envOfC qual scope s.heap.objs.size f cd :: outer):=I.stack
 have stf:∀ b ∈ frs (envOfC qual scope s.heap.objs.size f cd :: outer),H1 b=none:=I.stkFree
 have ib:Un (frs outer) [] H H1 s.heap s1.heap:=I.base
 obtain ⟨⟨t,sl,he⟩,_,_⟩:=I.hok e _ ha
 have hsz':s.heap.objs.size ≤ e:=hsz
 have nde:∀ b o,s.heap.get? b=some o->b ≠ e:=fun b o q => Nat.ne_of_lt (Nat.lt_of_lt_of_le (Heap.lt_size q) hsz')
 have ne:∀ b o,s.heap.get? b=some o->b ∉ frs outer->b ∉ e :: frs (envOfC qual scope s.heap.objs.size f cd :: outer):=fun b o q n z => by
  rcases List.mem_cons.mp z with z | z
  ·exact nde b o q z
  ·rcases (eqd hf).mp z with z | z
   ·exact absurd (Heap.lt_size q) (by rw [z]; exact Nat.lt_irrefl _)
   ·exact n z
 have eN:e ∉ frs (envOfC qual scope s.heap.objs.size f cd :: outer):=fun z => by rw [stf e z] at ha; cases ha
 show wpAny (model P w) (A.deeper (envOfC qual scope s.heap.objs.size f cd)) (leaving (envOfC qual scope s.heap.objs.size f cd) (.ref e)) _ _ _
 have kB:Heap.StaysIn (hideAll s1.heap (e :: frs (envOfC qual scope s.heap.objs.size f cd :: outer))) s1.heap:=fun b o q => of_hideAll _ q
 refine wpAny_mono (dq9 (gqD _ _) (wpAny_leaving_firstW (E:=fun _ _ => False) (Q:=fun _ s3 => ∃ h',s3={ s1 with heap:=h' }∧Heap.LeftW (hideAll s1.heap (e :: frs (envOfC qual scope s.heap.objs.size f cd :: outer))) (envOfC qual scope s.heap.objs.size f cd :: outer) e (.ref C) (.ref t) s1.heap h')
  (base:=hideAll s1.heap (e :: frs (envOfC qual scope s.heap.objs.size f cd :: outer))) (oe:=⟨.ref C,some d,.fields #[.ref t,.none,.none,.none,.bool false,.none],sl⟩) (a0:=.ref t) I.ok.frames
  (funFrames_hide stk fun env he b hb => List.mem_cons_of_mem _ (List.mem_filterMap.mpr ⟨env,he,hb⟩)) hf he kB (hideAll_none _ (.head _)) rfl rfl rfl fun h' L => ⟨h',rfl,L⟩)) (fun _ s3 ⟨⟨h2,es3,L⟩,sd⟩ => ?_) fun _ _ z => z.elim
 subst es3
 obtain ⟨x1,⟨_,_,x2⟩,x3,x4⟩:=L
 have keepB:∀ b o,s.heap.get? b=some o->H b=none->b ∉ frs outer->(hideAll s1.heap (e :: frs (envOfC qual scope s.heap.objs.size f cd :: outer))).get? b=some o:=fun b o q n nf =>
  hideAll_get _ (ib.keep b o q n nf (by simp)) (ne b o q nf)
 have thB:∀ b o,s.heap.get? b=some o->b ∉ frs outer->∃ o',(hideAll s1.heap (e :: frs (envOfC qual scope s.heap.objs.size f cd :: outer))).get? b=some o':=fun b o q nf => by
  obtain ⟨o',z⟩:=ib.there b o q (by simp)
  exact ⟨o',hideAll_get _ z (ne b o q nf)⟩
 have slotF:∀ b,b ∈ frs outer->∀ o,s1.heap.get? b=some o->∃ sl,h2.get? b=some { o with slots:=sl }:=fun b hb o q => by
  obtain ⟨_,o2,q2,nd⟩:=stk.mem ((eqd hf).mpr (.inr hb))
  rw [q] at q2
  cases q2
  exact x4 b o q nd
 have fly:Heap.FlyingW (hideAll s1.heap (e :: frs (envOfC qual scope s.heap.objs.size f cd :: outer))) outer e (.ref C) (.ref t) h2:=⟨x1,hideAll_none _ (.head _),x2,x3⟩
 have nee:∀ b u,H1 b=some u->u ≠ exSet e C d->b ≠ e:=fun b u q n z => by subst z; rw [ha] at q; exact n (Option.some.inj q).symm
 refine ⟨e,t,C,some d,_,forget H1 e,rfl,hE,⟨I.os,I.bare,fun b o q => ?_,fly,fun a u q => ?_,⟨fun b o q n nf _ => x1 b o (keepB b o q n nf),fun b o q n hb _ => ?_,fun b o q n hx => ?_,fun b o q _ => ?_,fun b xs q => ?_,fun b o u q => ?_,fun b ps q => ?_⟩,keepB,thB⟩,fun x hx => ?_⟩
 ·refine hideAll_get _ (I.bk b o q) fun z => ?_
  rcases List.mem_cons.mp z with z | z
  ·exact absurd (Nat.lt_of_lt_of_le (Heap.lt_size q) (Nat.le_trans I.ok.bsz hsz')) (by rw [z]; exact Nat.lt_irrefl _)
  ·rw [(stk.mem z).1] at q; cases q
 ·by_cases z:a=e
  ·subst z; rw [lqu] at q; cases q
  ·rw [bqP z] at q
   refine (I.hok a u q).stay (fun b v hb y => hideAll_get _ y fun m => ?_) (fun b y => ?_) fun b xs y => ?_
   ·rcases List.mem_cons.mp m with m | m
    ·rcases hb with rfl | hb
     ·exact z m
     ·exact nee b _ hb (by intro y; cases y) m
    ·have:=stf b m
     rcases hb with rfl | hb
     ·rw [q] at this; cases this
     ·rw [hb] at this; cases this
   ·rw [bqP (nee b _ y (by intro y; cases y))]; exact y
   ·rw [bqP (nee b _ y (by intro y; cases y))]; exact y
 ·obtain ⟨sl,z⟩:=ib.slot b o q n hb (by simp)
  obtain ⟨sl',z'⟩:=slotF b hb _ z
  exact ⟨sl',z'⟩
 ·rw [bqP (nde b o q)]
  exact ib.free b o q n hx
 ·by_cases hb:b ∈ frs outer
  ·obtain ⟨o',z⟩:=ib.there b o q (by simp)
   obtain ⟨sl',z'⟩:=slotF b hb _ z
   exact ⟨_,z'⟩
  ·obtain ⟨o',z⟩:=thB b o q hb
   exact ⟨o',x1 b o' z⟩
 ·have z:=ib.tups b xs q
  rw [bqP (nee b _ z (by intro y; cases y))]; exact z
 ·have z:=ib.frzs b o u q
  rw [bqP (nee b _ z (by intro y; cases y))]; exact z
 ·obtain ⟨m,z⟩:=ib.tbls b ps q
  exact ⟨m,by rw [bqP (nee b _ z (by intro y; cases y))]; exact z⟩
 ·cases hx
  obtain ⟨ob,hob,_⟩:=fly.there
  exact ⟨ob,hob,sd.get he hob⟩
end
structure Mk1 (K:Frag) (C f:Addr):Prop where
 ex:excInI K C vErr vNew f=true
 fn:isFn K (.ref f)=true
 kp:keepIn K (.ref C)=true
def tRaise1 (E:XK) (C:Addr) (sp:Sp) (t:TA):TS:=fun _ σ H => t σ H fun vs H1 => ∀ a,H1 a=none->sp (.ref a :: vs) (upd H1 a (exNew a C)) (fun v H2 => v=.non∧∃ d,H2 a=some (exSet a C d)∧E (.ref C) (some d) (forget H2 a)) E0
theorem pqv {E:XK}{C:Addr}{sp:Sp}{t:TA}{D:Ends}{σ:St}{H:Hp}:(tRaise1 E C sp t D σ H)=(t σ H fun vs H1 => ∀ a,H1 a=none->sp (.ref a :: vs) (upd H1 a (exNew a C)) (fun v H2 => v=.non∧∃ d,H2 a=some (exSet a C d)∧E (.ref C) (some d) (forget H2 a)) E0):=rfl
theorem kqy {X:Cx}{x:Str}{C f:Addr}{E:XK}{CX:CXT}{k:Nat}{fd:FuncData}{ps:List Str}{sp:Sp}{np cpos pos:Pos}{e:Expr}{t:TA}
  (hx:Raises1 X E) (hg:Gl X x) (hm:X.mg x=some (.ref C)) (M:Mk1 X.K C f) (F:FnOk X.prog X.w X.K X.mg X.base CX k f fd ps sp) (hr:Room (k + 1) X.A) (hb:Binds X.K fd ps []) (hps:ps.length=2) (h0:Passes CX X E0) (hcalm:X.calm=true) (ha:PA X [e] t)
  (hdb:(x == ("__debug__" : Str))=false:=by decide) (he:starEach [e] X.env=(false,eval e X.env) :: starEach [] X.env:=by rfl) (hpl:(backTo cpos (starEach [] X.env)).any (·.1)=false:=by rfl) :
  PS X (.Raise (some (.Call (.Name x np) [e] [] cpos)) none pos) (tRaise1 E C sp t):=by
 intro pins s σ H D I h
 obtain ⟨tl,N,nm,qn,bs,hd',sn,sub,ab,col,dd,k0,k1,k2,k3,k5,hC,⟨mN,hN,hni⟩,T⟩:=excObjI I.ok.mod.kin M.ex
 obtain ⟨oI,hoI,hcI⟩:∃ oI,X.base.get? f=some oI∧oI.cls=.type "function" := by
  have z:typeIn X.K (.ref f)=some (.type "function"):=beq_iff_eq.mp M.fn
  unfold typeIn at z
  obtain ⟨o,ho,hc⟩:=Option.map_eq_some_iff.mp z
  exact ⟨o,I.ok.mod.kin _ _ ho,hc⟩
 rw [arm_exec_Raise]
 have hbase:=T.hasType PySem.F.excBase_ValueError.hasBase
 refine wpAny_bind (wpAny_standAt (jqN (C:=C) (nm:=nm) (q:=qn) (N:=N) (bs:=bs) (bm:=tl) (hdct:=hd') (sn:=sn) (sub:=sub) (ab:=ab) (col:=col) (dd:=dd) (k0:=k0) (k1:=k1) (k2:=k2) (k3:=k3) (k5:=k5) (newId:=vNew) hbase (I.ok.hd hcalm) ?_))
 refine wpAny_bind (wpAny_mono (wpAny_Call_Name_kw (eqL I hg hm ?_ hdb)) (fun v s₃ h₃ => wpAny_bind (wpAny_standAt (wpAny_pure h₃))) fun _ _ x => x)
 refine callWith_K (h₀:=X.base) I.ok.mod.kin M.kp (thn (ha cpos pins s σ H _ I h) fun us s1 ⟨vs,H1,I1,r,q⟩ => ⟨I1.kIn,?_⟩) he hpl
 rw [List.nil_append]
 obtain ⟨hh,g,dw,tk,os⟩:=s1
 have hlu:us.length ≤ sizeLine:=by
  have z:=F.len _ _ _ _ (q (hh.objs.size + 1) (I1.hok.fresh (Nat.le_succ _)))
  rw [List.length_cons,hps] at z
  rw [<- r.length,sizeLine_eq]
  omega
 have kb:∀ b o,X.base.get? b=some o->hh.get? b=some o:=fun b o e => I1.bk b o e
 refine oqB PySem.F.excBase_ValueError (T.keeps kb) (kb _ _ hC) (hN.keeps kb) hni (kb _ _ hoI) hcI ?_ hlu
 have I2:Inv X pins σ (upd H1 (hh.objs.size + 1) (exNew (hh.objs.size + 1) C)) ⟨(hh.push (newTup us)).push (newExc C hh.objs.size),g,dw,tk,os⟩:=by
  refine I1.laid (t':=tk) (fun b u e => Heap.get?_push_of_some _ (Heap.get?_push_of_some _ e)) (Nat.le_succ _) ?_
  have hg2:((hh.push (newTup us)).push (newExc C hh.objs.size)).get? (hh.objs.size + 1)=some (newExc C hh.objs.size):=by heap_get
  exact ⟨⟨_,_,hg2⟩,⟨_,hg2⟩,fun h1 h2 ⟨t,sl,z⟩ k => ⟨t,sl,k _ z⟩⟩
 have q2:=q (hh.objs.size + 1) (I1.hok.fresh (Nat.le_succ _))
 have r2:Vals (V.ref (hh.objs.size + 1) :: vs) (Value.ref (hh.objs.size + 1) :: us):=.cons rfl r
 have hl:(Value.ref (hh.objs.size + 1) :: us).length=ps.length:=by rw [<- r2.length]; exact F.len _ _ _ _ q2
 have hbb:=hb ⟨(hh.push (newTup us)).push (newExc C hh.objs.size),g,dw,tk,os⟩ (Value.ref (hh.objs.size + 1) :: us) I2.kIn (by rw [List.append_nil]; exact hl)
 rw [List.append_nil] at hbb
 refine wpAny_call (codeAny_mono (F.run _ X.stack _ _ ⟨Value.ref (hh.objs.size + 1) :: us,[]⟩ (Value.ref (hh.objs.size + 1) :: us) _ _ E0 (hr.make C us []) (I2.env0.make C us []) hbb r2 q2) fun r s' hq' => ?_)
 cases r with
 | error ev => exact h0 pins σ _ _ ev s' I2 hq'
 | ok fl =>
  cases fl with
  | ret u =>
   obtain ⟨v,H',I3,rv,ev,d,hd,hE⟩:=I2.after hq'
   subst ev
   obtain ⟨⟨t,sl,hx3⟩,_,_⟩:=I3.hok _ _ hd
   exact ⟨rv,_,t,some d,sl,rfl,I3.bk _ _ hC,hx3,hx pins σ H' s' _ C d I3 hd (Nat.le_trans I1.sz (Nat.le_succ _)) hE⟩
  | next => exact False.elim hq'
  | brk => exact False.elim hq'
  | cont => exact False.elim hq'
theorem Fun.okn {P:Program}{w:World}{K:Frag}{mg:Str->Option Value}{base:Heap}{x qual:Str}{st:Stmt}{f:Addr}{fd:FuncData}{N ps:List Str}{k:Nat}{sp:Sp} (F:Fun K x qual st f fd) (S:FnScope N ps (defScope st)) (len:∀ vs H Q E,sp vs H Q E->vs.length=ps.length)
  (hbody:∀ (cdv:Value) (A:Around) (outer:List Env) (s:Shared) (H:Hp) (vs:List V) (Q:VK) (E:XK),Room k (A.deeper (envOfC qual (defScope st) s.heap.objs.size f cdv))->sp vs H Q E ->
   ∃ t,PSs (cxOf (CXN P w base) P w K mg base N qual (defScope st) f cdv A outer s H E) (defBody st) t∧t { nx:=fun _ H' => Q .non H',rt:=Q } (start N vs) H):FnOk P w K mg base (CXN P w base) (k + 1) f fd ps sp:=by
 obtain ⟨oc,od,kV,doc,pm,an,cdv,ct,osl,rfl,lk,hcd⟩:=F.ex
 exact uqu lk hcd S len fun A outer s H vs Q E hr hsp => hbody cdv A outer s H vs Q E hr hsp
def TryB (X:Cx) (body:List Stmt) (t:XK->TS):Prop:=∀ (pins:List (Addr × Obj)) (s:Shared) (σ:St) (H:Hp) (D:Ends) (Eh:XK),Inv X pins σ H s->t Eh D σ H ->
 wpAny (model X.prog X.w) X.A (execs body X.env) (SP X pins D) (fun e s' => ∃ H1 s1,Inv X pins σ H1 s1∧CXN X.prog X.w X.base X.stack H1 s1 Eh e s') s
def tTryCall (sp:Sp) (t:TA):XK->TS:=fun Eh D σ H => t σ H fun vs H1 => sp vs H1 (fun _ H2 => D.nx σ H2) Eh
theorem Inv.sharp {X:Cx}{pins:List (Addr × Obj)}{σ:St}{H:Hp}{s:Shared}{a:Addr}{φ ψ:Heap->Prop} (I:Inv X pins σ (upd H a (.ext φ)) s) (h:ψ s.heap) (st:∀ h1 h2:Heap,ψ h1->(∀ o,h1.get? a=some o->h2.get? a=some o)->ψ h2):Inv X pins σ (upd H a (.ext ψ)) s:=by
 have e:upd H a (.ext φ) a=some (.ext φ):=aqk
 obtain ⟨_,ex,_⟩:=I.hok a _ e
 have:=I.write (x:=a) (e:=a) (o:=.ext ψ) (t':=s.toks) (h':=s.heap) (by rw [e]; exact True.intro) (.inl rfl) (fun b u _ q => q) ex ⟨h,ex,st⟩
 rwa [sq4] at this
def tTryN (K:Frag) (t:XK->TS) (W:Addr) (i:Nat) (tb:TS):TS:=fun D σ H => t (fun cls d H2 =>
 ∃ C,cls=.ref C∧subIn K (.ref C) (.ref W)=some true∧∀ a,H2 a=none->tb { nx:=fun σ' H' => D.nx (σ'.set i none) H',rt:=D.rt } (σ.set i (some (.ref a))) (upd H2 a (exC a C d))) { nx:=D.nx,rt:=D.rt } σ H
theorem rqw {K:Frag}{t:XK->TS}{W:Addr}{i:Nat}{tb:TS}{D:Ends}{σ:St}{H:Hp}:tTryN K t W i tb D σ H ↔ t (fun cls d H2 =>
 ∃ C,cls=.ref C∧subIn K (.ref C) (.ref W)=some true∧∀ a,H2 a=none->tb { nx:=fun σ' H' => D.nx (σ'.set i none) H',rt:=D.rt } (σ.set i (some (.ref a))) (upd H2 a (exC a C d))) { nx:=D.nx,rt:=D.rt } σ H:=Iff.rfl
theorem nqt {sp:Sp}{t:TA}{Eh:XK}{D:Ends}{σ:St}{H:Hp}:(tTryCall sp t Eh D σ H)=(t σ H fun vs H1 => sp vs H1 (fun _ H2 => D.nx σ H2) Eh):=rfl
def rIsX (K:Frag):List V->Hp->VK->Prop:=fun vs H Q => ∃ a c C d b,vs=[.ref a,c]∧H a=some (exC a C d)∧ExLook K C∧KitAns K H C c b∧Q (.bl b) H
theorem tqR {K:Frag}{a:Addr}{c:V}{H:Hp}{Q:VK}:rIsX K [.ref a,c] H Q ↔ ∃ C d b,H a=some (exC a C d)∧ExLook K C∧KitAns K H C c b∧Q (.bl b) H :=
 ⟨fun ⟨_,_,C,d,b,e,h⟩ => by cases e; exact ⟨C,d,b,h⟩,fun ⟨C,d,b,h⟩ => ⟨a,c,C,d,b,rfl,h⟩⟩
end L2
namespace L2
open PySem PySem.Spec PySem.W PySem.Calls PyProof.Rows PySem.Builtin PySem.Builtin.ObjectAttr
section
variable {prog:Program}{w:World}{A:Around}{E:Value->Shared->Prop}{hh:Heap}{g:Array GenState}{dr:Drawn}{t:Nat}{os:OsState}{K:Frag}{a C:Addr}{o:Obj}{od:Option Obj}{name:Str}{v:Value}
theorem jqx {tk:Tok}{Q:Fin->Shared->Prop} (kin:K.In hh) (I:PySem.W.InstAt hh a o C od) (hf:findObj K C od name=some (.value v)) (hq:Q (.done (.ret v)) ⟨hh,g,dr,t,os⟩) :
  wpAny (model prog w) A (Builtin.«object.__getattribute__» ⟨[.ref a,.str name tk],[]⟩) Q E ⟨hh,g,dr,t,os⟩:=by
 have L0:=I.type (M:=model prog w)
 have L1:=looks_find (M:=model prog w) kin I hf
 refine wpAny_bind (wpAny_pure (wpAny_bind (wpAny_pure (wpAny_bind (L0.at (wpAny_bind (L1.at ?_)))))))
 exact wpAny_pure hq
theorem nqb {tk:Tok}{n1 ex:Bool}{Q:Value->Shared->Prop} (kin:K.In hh) (I:PySem.W.InstAt hh a o C od) (hf:findObj K C od name=some (.value v)) (hv:handedIn v=true) (L:ExLook K C) (gb:Slot "ValueError" "__getattribute__" "BaseException.__getattribute__") (hq:Q v ⟨hh,g,dr,t,os⟩) :
  wpAny (model prog w) A (getAttrBy (.ref a) (.str name tk) n1 ex) Q E ⟨hh,g,dr,t,os⟩:=by
 have lt:=mqv (M:=model prog w) I.at_ I.cls; have lg:=looks_findIn (M:=model prog w) kin L.ga; have ln:=looks_findIn (M:=model prog w) kin L.na
 have f3:=gb.bind (.ref a)
 have y2:(Value.builtin "BaseException.__getattribute__" == Value.builtin "object.__getattribute__")=false:=by decide +kernel
 have y1:(onTheHeap (Value.ref C) && Value.builtin "BaseException.__getattribute__" == Value.builtin "object.__getattribute__")=false:=by rw [y2]; rfl
 have y0:(ex && onTheHeap (Value.builtin "BaseException.__getattribute__"))=false:=by cases ex <;> rfl
 repeat (any_goals (first | assumption | with_reducible refine Looks.at lt ?_ | with_reducible refine Looks.at lg ?_ | with_reducible refine Looks.at ln ?_ | rw [y0] | wp_step))
 refine codeAny_call_builtin gb.plain PySem.F.entry_bexc_ga (kqS kin I.at_ I.cls L (jqx kin I hf ?_))
 have hz:=handedOut_of hv
 repeat (any_goals (first | assumption | rw [hz] | wp_step))
end
structure ExFld (K:Frag) (C:Addr) (f:Str):Prop where
 look:ExLook K C
 na:findIn K (.ref C) f=some none
 hd:hasDictIn K C=true
def tFldE (K:Frag) (te:TE) (f:Str):TE:=fun σ H Q => te σ H fun x H1 => ∃ a C d fs v,x=.ref a∧H1 a=some (exC a C (some d))∧H1 d=some (.xd fs)∧ExFld K C f∧fs.lookup f=some v∧Q v H1
theorem sqy {K:Frag}{te:TE}{f:Str}{σ:St}{H:Hp}{Q:VK}:(tFldE K te f σ H Q)=(te σ H fun x H1 => ∃ a C d fs v,x=.ref a∧H1 a=some (exC a C (some d))∧H1 d=some (.xd fs)∧ExFld K C f∧fs.lookup f=some v∧Q v H1):=rfl
theorem rq4 {X:Cx}{e:Expr}{f:Str}{pos:Pos}{te:TE} (he:PE X e te) (hb:attributeBase e f X.env (eval e X.env)=eval e X.env):PE X (.Attribute e f pos) (tFldE X.K te f):=by
 intro pins s σ H Q I h
 refine sqd hb (thn (he pins s σ H _ I h) fun u s1 W' => ?_)
 obtain ⟨x,H1,I1,rx,a,C,d,fs,v,ex,ea,ed,c,l,q⟩:=W'
 subst ex
 obtain rfl:u=Value.ref a:=rx
 obtain ⟨⟨o,ho,hc,hdc,hnc⟩,_,_⟩:=I1.hok a _ ea
 obtain ⟨mA,hN,hR⟩:=I1.hok d _ ed
 obtain ⟨od,hod,hl⟩:=kqq hN
 have dd:=hdc d rfl
 have J:PySem.W.InstAt s1.heap a o C (some od):=⟨ho,hc,hnc,by rw [dd]; exact hod⟩
 obtain ⟨v',hv',rv⟩:=RelO.some_of (v:=v) (o:=mA f) (by rw [<- l]; exact hR f)
 have K1:=I1.kIn
 have fo:findObj X.K C (some od) f=some (.value v'):=findObj_own c.hd c.na rfl (by rw [hl,hv'])
 have I2:=I1.tok (s1.toks + 1)
 obtain ⟨hh,g,dr,tk,os⟩:=s1
 unfold getAttr
 refine wpAny_bind (wpAny_mkText ?_)
 refine nqb K1 J fo (oqp rv) c.look PySem.F.attrBase_ValueError.ga ?_
 exact ⟨v,H1,I2,rv,q⟩
end L2
namespace L2
open PySem PySem.Spec PySem.W PySem.Calls PyProof.Rows
section
variable {P:Program}{w:World}{K:Frag}{mg:Str->Option Value}{base:Heap}{j k:Nat}{A:Around}{outer:List Env}{s:Shared}{H:Hp}{E:XK}
structure RoomU (k:Nat) (A:Around):Prop where
 dp:A.depth + 3 * k + 5 < recursionLimit
 un:A.units + 16 * k + 200 < cLine
structure FnU (P:Program) (w:World) (K:Frag) (mg:Str->Option Value) (base:Heap) (k:Nat) (f:Addr) (fd:FuncData) (ps:List Str) (sp:Sp):Prop where
 len:∀ vs H Q E,sp vs H Q E->vs.length=ps.length
 go:∀ (A:Around) (outer:List Env) (s:Shared) (H:Hp) (args:Args) (us:List Value) (vs:List V) (Q:VK) (E:XK),RoomU k A->Env0 P w K mg base A outer s H->BindsTo s fd args (ps.zip us)->Vals vs us->sp vs H Q E ->
  codeAny (model P w) A (.call (.ref f) args) (CR CX0 outer P w H s Q E) s
end
section
variable {X:Cx}
def tTryIf (tc:TT) (ta tb:XK->TS):XK->TS:=fun Eh D σ H => tc σ H fun b H1 => if b=true then ta Eh D σ H1 else tb Eh D σ H1
theorem pq0 {tc:TT}{ta tb:XK->TS}{Eh:XK}{D:Ends}{σ:St}{H:Hp}:(tTryIf tc ta tb Eh D σ H)=(tc σ H fun b H1 => if b=true then ta Eh D σ H1 else tb Eh D σ H1):=rfl
def TryE (X:Cx) (e:Expr) (t:XK->TE):Prop:=∀ (pins:List (Addr × Obj)) (s:Shared) (σ:St) (H:Hp) (Q:VK) (Eh:XK),Inv X pins σ H s->t Eh σ H Q ->
 wpAny (model X.prog X.w) X.A (eval e X.env) (EP X pins σ Q) (fun e s' => ∃ H1 s1,Inv X pins σ H1 s1∧CXN X.prog X.w X.base X.stack H1 s1 Eh e s') s
def tTryE (sp:Sp) (t:TA):XK->TE:=fun Eh σ H Q => t σ H fun vs H1 => sp vs H1 Q Eh
theorem oqz {k:Nat}{f:Addr}{fd:FuncData}{ps:List Str}{sp:Sp}{fx:Str}{p cpos:Pos}{e:Expr}{es:List Expr}{t:TA}
  (F:FnOk X.prog X.w X.K X.mg X.base (CXN X.prog X.w X.base) k f fd ps sp) (hr:Room k X.A) (hg:Gl X fx) (hm:X.mg fx=some (.ref f)) (hk:keepIn X.K (.ref f)=true) (hb:Binds X.K fd ps []) (ha:PA X (e :: es) t)
  (hx0:∀ e s,X.xe e s->False)
  (hdb:(fx == ("__debug__" : Str))=false:=by decide)
  (he:starEach (e :: es) X.env=(false,eval e X.env) :: starEach es X.env:=by rfl) (hpl:(backTo cpos (starEach es X.env)).any (·.1)=false:=by rfl) :
  TryE X (.Call (.Name fx p) (e :: es) [] cpos) (tTryE sp t):=by
 intro pins s σ H Q Eh I h
 refine wpAny_Call_Name_kw (eqL I hg hm ?_ hdb)
 refine callWith_K (h₀:=X.base) I.ok.mod.kin hk (wpAny_mono (ha cpos pins s σ H _ I h) (fun us s1 ⟨vs,H1,I1,r,q⟩ => ⟨I1.kIn,?_⟩) fun e s1 z => (hx0 e s1 z).elim) he hpl
 have hlen:(us ++ []).length=ps.length:=by rw [List.append_nil,<- r.length]; exact F.len _ _ _ _ q
 have hbb:=hb s1 us I1.kIn hlen
 rw [List.append_nil] at hbb
 refine wpAny_call (codeAny_mono (F.run X.A X.stack s1 H1 ⟨us,[]⟩ us vs _ _ hr I1.env0 hbb r q) fun r s2 hq => ?_)
 cases r with
 | ok fl =>
  cases fl with
  | ret u => exact I1.after hq
  | next => exact False.elim hq
  | brk => exact False.elim hq
  | cont => exact False.elim hq
 | error ev => exact ⟨H1,s1,I1,hq⟩
def tTryP (ta:TE) (te:XK->TE):XK->TE:=fun Eh σ H Q => ta σ H fun x H1 => te Eh σ H1 fun y H2 => ∀ p H',H2 p=none->Same H2 H'->H' p=some (.tup [x,y])->Q (.ref p) H'
def tTryS (i:Nat) (te:XK->TE):XK->TS:=fun Eh D σ H => te Eh σ H fun v H1 => D.nx (σ.set i (some v)) H1
theorem sqg {i:Nat}{x:Str}{e:Expr}{te:XK->TE}{pos pos':Pos} (hN:X.N.Nodup) (hi:X.N[i]?=some x) (hl:X.env.scope.names.lookup x=some .local) (he:TryE X e te) (hs:swapsWith e (some (.Name x pos')) pos.line X.env=pure false:=by rfl) :
  TryB X [.Assign [.Name x pos'] e pos] (tTryS i te):=by
 intro pins s σ H D Eh I h
 refine wpAny_execs_cons (wpAny_Assign_Name (wpAny_mono (he pins s σ H _ Eh I h) (fun v s1 W' => ?_) fun _ _ z => z) hs)
 obtain ⟨y,H1,I1,r1,q1⟩:=W'
 exact hqy I1 hN hi (.inl hl) r1 (fun s2 I2 => wpAny_execs_nil ⟨_,H1,I2,q1⟩) (.inr hl)
theorem tqh {sp:Sp}{t:TA}{Eh:XK}{σ:St}{H:Hp}{Q:VK}:(tTryE sp t Eh σ H Q)=(t σ H fun vs H1 => sp vs H1 Q Eh):=rfl
theorem sqD {ta:TE}{te:XK->TE}{Eh:XK}{σ:St}{H:Hp}{Q:VK}:(tTryP ta te Eh σ H Q)=(ta σ H fun x H1 => te Eh σ H1 fun y H2 => ∀ p H',H2 p=none->Same H2 H'->H' p=some (.tup [x,y])->Q (.ref p) H'):=rfl
theorem rqq {i:Nat}{te:XK->TE}{Eh:XK}{D:Ends}{σ:St}{H:Hp}:(tTryS i te Eh D σ H)=(te Eh σ H fun v H1 => D.nx (σ.set i (some v)) H1):=rfl
end
end L2
namespace L2
open PySem
theorem qqX {X:Cx}{K:PySem.W.Frag}{e:Expr}{f:Str}{pos:Pos}{te:TE} (hk:X.K=K) (he:PE X e te) (hb:attributeBase e f X.env (eval e X.env)=eval e X.env):PE X (.Attribute e f pos) (tFldE K te f):=by subst hk; exact rq4 he hb
end L2
namespace Wm
open PySem L2
abbrev Rs (α:Type):=Except Nat (α × Nat)
def sh {α:Type} (k:Nat):Rs α->Rs α
 | .ok (a,n) => .ok (a,k + n)
 | .error n => .error (k + n)
def mp {α β:Type} (f:α->β):Rs α->Rs β
 | .ok (a,n) => .ok (f a,n)
 | .error n => .error n
def pre {α:Type} (c:α) (k:Nat):Rs (List α)->Rs (List α)
 | .ok (l,n) => .ok (c :: l,k + n)
 | .error n => .error (k + n)
section
variable {α β γ:Type}
end
section
variable {t:List Nat}{h:Option (List Nat)}{d:Option Int}{w:Bool × List (List Nat) × Bool}{q:Option (List (List Nat × Option (List Nat)))}{m:Option (List Nat)}{n n1 n2 n3 n4 n5:Nat}
end
section
variable {r:List Nat}{n:Nat}
end
section
variable {r:List Nat}{n:Nat}
end
end Wm
namespace L2
open PySem PySem.Spec PySem.W PyProof.Rows
theorem qqi {K:Frag}{M:Model}{h:Heap}{a W C:Addr}{o:Obj} (kin:K.In h) (ha:h.get? a=some o) (hc:o.cls=.ref C) (cw:Catch K W) (hs:subIn K (.ref C) (.ref W)=some false):Looks M h (excMatches (.ref a) (.ref W)) false:=by
 have L1:=looks_typeIn (M:=M) kin cw.ty
 have L2:=looks_subIn (M:=M) kin cw.ex
 have L3:=looks_subIn (M:=M) kin hs
 have L4:Looks M h (typeOf (.ref a)) (.ref C):=hc ▸ (Looks.ld ha).andThen .now
 have L5:Looks M h (isInstance (.ref W) (.type "tuple")) false:=L1.andThen (Looks.of_pure tc_notTuple)
 have L6:Looks M h (isType (.ref W)) true:=by
  have z:=cw.cl
  unfold clsIn at z
  split at z
  ·next lk =>
   intro A' Q' E' s' k q
   unfold isType loadHead
   exact wpAny_bind (wpAny_loadPart (k _ _ (kin _ _ lk)) (wpAny_pure q))
  ·cases z
 intro A Q E s k q
 unfold excMatches isExcClass
 refine wpAny_bind (L5 A _ E s k ?_)
 simp only [Bool.false_eq_true,if_false]
 refine wpAny_bind (wpAny_pure ?_)
 refine wpAny_bind ?_
 rw [List.forIn_cons]
 refine wpAny_bind (wpAny_bind (wpAny_bind (L6 A _ E s k ?_)))
 simp only [if_true]
 refine L2 A _ E s k ?_
 simp only [Bool.not_true,Bool.false_eq_true,if_false]
 refine wpAny_pure ?_
 dsimp only
 rw [List.forIn_nil]
 refine wpAny_pure ?_
 refine wpAny_bind (L4 A _ E s k ?_)
 refine wpAny_bind ?_
 rw [List.forIn_cons]
 refine wpAny_bind (wpAny_bind (L3 A _ E s k ?_))
 simp only [Bool.false_eq_true,if_false]
 refine wpAny_pure ?_
 dsimp only
 rw [List.forIn_nil]
 exact wpAny_pure (wpAny_pure q)
def tTry2 (K:Frag) (t:XK->TS) (W1:Addr) (tb1:TS) (W2:Addr) (i:Nat) (tb2:TS):TS:=fun D σ H => t (fun cls d H2 =>
 ∃ C,cls=.ref C∧((subIn K (.ref C) (.ref W1)=some true∧∀ a,H2 a=none->tb1 { nx:=D.nx,rt:=D.rt } σ (upd H2 a (exC a C d))) ∨
  (subIn K (.ref C) (.ref W1)=some false∧subIn K (.ref C) (.ref W2)=some true∧∀ a,H2 a=none->tb2 { nx:=fun σ' H' => D.nx (σ'.set i none) H',rt:=D.rt } (σ.set i (some (.ref a))) (upd H2 a (exC a C d))))) { nx:=D.nx,rt:=D.rt } σ H
theorem sqO {X:Cx}{W1 W2:Addr}{x1 x2 n:Str}{np1 np2 hpos1 hpos2 pos:Pos}{body:List Stmt}{b₁ b₀:Stmt}{suite1 suite:List Stmt}{t:XK->TS}{tb1 tb:TS}{i:Nat}
  (hb:TryB X body t) (hstk:X.stack=X.env :: X.outer) (hf:X.env.frame=some X.env.locals) (hgW1:Gl X x1) (hmW1:X.mg x1=some (.ref W1)) (cw1:Catch X.K W1) (hgW:Gl X x2) (hmW:X.mg x2=some (.ref W2)) (cw:Catch X.K W2)
  (nd:X.N.Nodup) (hi:X.N[i]?=some n) (hl:X.env.scope.names.lookup n=some .local) (hbd1:∀ a,PSs (X.handling (.ref a)) (b₁ :: suite1) tb1) (hbd:∀ a,PSs (X.handling (.ref a)) (b₀ :: suite) tb)
  (hdW1:(x1 == ("__debug__" : Str))=false:=by decide) (hdW:(x2 == ("__debug__" : Str))=false:=by decide) :
  PS X (.Try body [.ExceptHandler (some (.Name x1 np1)) none (b₁ :: suite1) hpos1,.ExceptHandler (some (.Name x2 np2)) (some n) (b₀ :: suite) hpos2] [] [] pos) (tTry2 X.K t W1 tb1 W2 i tb):=by
 intro pins s σ H D I h
 refine wpAny_Try_except (wpAny_mono (hb pins s σ H _ _ I h) (fun fl s2 q => ?_) fun ev s2 ⟨H1,s1,I1,hq⟩ => ?_)
 ·cases fl with
  | next => exact wpAny_execs_nil q
  | ret u => exact q
  | brk => obtain ⟨_,_,_,q⟩:=q; exact q.elim
  | cont => obtain ⟨_,_,_,q⟩:=q; exact q.elim
 ·obtain ⟨a,tt,C,d,B,H2,rfl,⟨C',ce,hsub⟩,Wn⟩:=hq
  cases ce
  have hn:H2 a=none:=Wn.f.new (h5:=s.heap) (a0:=.none)
  have fl:Heap.FlyingW B (X.env :: X.outer) a (.ref C) (.ref tt) s2.heap:=hstk ▸ Wn.f.fly
  have fr:X.A.frames=some (X.env :: X.outer):=hstk ▸ I1.ok.frames
  refine wpAny_mono (dq9 (gq5 _ _) (wpAny_looks_onW (E:=fun _ _ => False) (Q:=fun _ s3 => ∃ h4,s3={ s2 with heap:=h4 }∧Heap.HeldW B (X.env :: X.outer) a (.ref C) (.ref tt) X.env.locals h4∧s2.heap.UpToSlots h4) fr hf fl fun h4 held4 sm4 => ⟨h4,rfl,held4,sm4⟩)) (fun _ s3 W' => ?_) fun _ _ z => z.elim
  obtain ⟨⟨h4,e3,held4,sm4⟩,sd4⟩:=W'
  subst e3
  refine wpAny_mono (dq9 (dqu _ _) (wpAny_landsW (E:=fun _ _ => False) (s:={ s2 with heap:=h4 }) (Q:=fun _ s3 => ∃ h5,s3={ s2 with heap:=h5 }∧Heap.FlyingW B (X.env :: X.outer) a (.ref C) (.ref tt) h5∧h4.UpToSlots h5) held4 fun h5 f5 sm5 => ⟨h5,rfl,f5,sm5⟩)) (fun _ s3 W' => ?_) fun _ _ z => z.elim
  obtain ⟨⟨h5,e3,f5,sm5⟩,sd5⟩:=W'
  subst e3
  have I5:=I1.caught Wn.f (hstk.symm ▸ f5) (sm4.trans sm5)
  obtain ⟨ob,hob,hoc⟩:=f5.there
  refine wpAny_handleBy_cons (codeAny_handlers_test (eqL (X:=X.handling (.ref a)) (I5.handling _) hgW1 hmW1 ?_ hdW1)) (by intro q; cases q)
  rcases hsub with ⟨hsub,hq⟩ | ⟨hno,hsub,hq⟩
  ·refine (hqP I5.kIn hob hoc cw1 hsub) _ _ _ _ (fun b o q => q) ?_
   refine (codeAny_handlers_suite ?_)
   refine wpAny_mono (dq9 (dqu _ _) (lands_againW (E:=fun _ _ => False) (s:={ s2 with heap:=h5 }) (Q:=fun _ s3 => ∃ h6,s3={ s2 with heap:=h6 }∧Heap.FlyingW B (X.env :: X.outer) a (.ref C) (.ref tt) h6∧h5.UpToSlots h6) f5 fun h6 f6 sm6 => ⟨h6,rfl,f6,sm6⟩)) (fun _ s3 W' => ?_) fun _ _ z => z.elim
   obtain ⟨⟨h6,e3,f6,sm6⟩,sd6⟩:=W'
   subst e3
   have I6':=I1.caught Wn.f (hstk.symm ▸ f6) ((sm4.trans sm5).trans sm6)
   obtain ⟨oe,vs6,ho6,hc6,hd6,_⟩:=f6.first
   have I6:Inv X pins σ (upd H2 a (exC a C d)) { s2 with heap:=h6 }:=by
    refine I6'.sharp ⟨oe,ho6,hc6,fun y hy => ?_,by unfold notCls; rw [hd6]⟩ fun h1 h2 ⟨o,z,c⟩ k => ⟨o,k o z,c⟩
    obtain ⟨o2,z2,zd⟩:=Wn.dc y hy
    exact (((sd4.trans sd5).trans sd6).get z2 ho6).trans zd
   refine wpAny_mono (hbd1 a pins _ _ _ _ (I6.handling _) (hq a hn)) (fun fl s8 q8 => ?_) fun e s8 z => z.elim
   cases fl with
   | next =>
    obtain ⟨σ',H',I',q'⟩:=q8
    exact ⟨_,_,Inv.handled I1.ok I',q'⟩
   | ret u =>
    obtain ⟨v,σ',H',I',rv,q'⟩:=q8
    exact ⟨_,_,_,Inv.handled I1.ok I',rv,q'⟩
   | brk =>
    obtain ⟨_,_,_,q'⟩:=q8
    exact q'.elim
   | cont =>
    obtain ⟨_,_,_,q'⟩:=q8
    exact q'.elim
  ·refine (qqi I5.kIn hob hoc cw1 hno) _ _ _ _ (fun b o q => q) ?_
   refine wpAny_handleBy_cons (codeAny_handlers_test (eqL (X:=X.handling (.ref a)) (I5.handling _) hgW hmW ?_ hdW)) (by intro q; cases q)
   refine (hqP I5.kIn hob hoc cw hsub) _ _ _ _ (fun b o q => q) ?_
   refine codeAny_handlers_suite_as ?_
   refine wpAny_mono (dq9 (dqu _ _) (lands_againW (E:=fun _ _ => False) (s:={ s2 with heap:=h5 }) (Q:=fun _ s3 => ∃ h6,s3={ s2 with heap:=h6 }∧Heap.FlyingW B (X.env :: X.outer) a (.ref C) (.ref tt) h6∧h5.UpToSlots h6) f5 fun h6 f6 sm6 => ⟨h6,rfl,f6,sm6⟩)) (fun _ s3 W' => ?_) fun _ _ z => z.elim
   obtain ⟨⟨h6,e3,f6,sm6⟩,sd6⟩:=W'
   subst e3
   have I6':=I1.caught Wn.f (hstk.symm ▸ f6) ((sm4.trans sm5).trans sm6)
   obtain ⟨oe,vs6,ho6,hc6,hd6,_⟩:=f6.first
   have I6:Inv X pins σ (upd H2 a (exC a C d)) { s2 with heap:=h6 }:=by
    refine I6'.sharp ⟨oe,ho6,hc6,fun y hy => ?_,by unfold notCls; rw [hd6]⟩ fun h1 h2 ⟨o,z,c⟩ k => ⟨o,k o z,c⟩
    obtain ⟨o2,z2,zd⟩:=Wn.dc y hy
    exact (((sd4.trans sd5).trans sd6).get z2 ho6).trans zd
   refine hqy (X:=X.handling (.ref a)) (i:=i) (v:=.ref a) (I6.handling _) nd hi (.inl hl) rfl (fun s7 I7 => ?_) (.inr hl)
   refine wpAny_mono (hbd a pins s7 _ _ _ I7 (hq a hn)) (fun fl s8 q8 => ?_) fun e s8 z => z.elim
   cases fl with
   | next =>
    obtain ⟨σ',H',I',q'⟩:=q8
    exact (Inv.handled I1.ok I').goes nd hi hl fun s9 I9 => ⟨_,_,I9,q'⟩
   | ret u =>
    obtain ⟨v,σ',H',I',rv,q'⟩:=q8
    exact (Inv.handled I1.ok I').goes nd hi hl fun s9 I9 => ⟨_,_,_,I9,rv,q'⟩
   | brk =>
    obtain ⟨_,_,_,q'⟩:=q8
    exact q'.elim
   | cont =>
    obtain ⟨_,_,_,q'⟩:=q8
    exact q'.elim
theorem rqG {K:Frag}{t:XK->TS}{W1 W2:Addr}{tb1 tb2:TS}{i:Nat}{D:Ends}{σ:St}{H:Hp}:(tTry2 K t W1 tb1 W2 i tb2 D σ H)=(t (fun cls d H2 =>
 ∃ C,cls=.ref C∧((subIn K (.ref C) (.ref W1)=some true∧∀ a,H2 a=none->tb1 { nx:=D.nx,rt:=D.rt } σ (upd H2 a (exC a C d))) ∨
  (subIn K (.ref C) (.ref W1)=some false∧subIn K (.ref C) (.ref W2)=some true∧∀ a,H2 a=none->tb2 { nx:=fun σ' H' => D.nx (σ'.set i none) H',rt:=D.rt } (σ.set i (some (.ref a))) (upd H2 a (exC a C d))))) { nx:=D.nx,rt:=D.rt } σ H):=rfl
end L2
namespace L2
open PySem PySem.Spec PyProof.Rows
section
variable {X:Cx}
def rStart1:V->List V->Hp->VK->Prop:=fun x vs H Q => ∃ z y:List Nat,x=.str ⟨z.toArray⟩∧vs=[.str ⟨y.toArray⟩]∧Q (.bl (decide (z.take y.length=y))) H
def rEnd1:V->List V->Hp->VK->Prop:=fun x vs H Q => ∃ z y:List Nat,x=.str ⟨z.toArray⟩∧vs=[.str ⟨y.toArray⟩]∧Q (.bl (decide (z.drop (z.length - y.length)=y))) H
theorem rqo (z y:List Nat) (i:Nat):Builtin.Str.subAt ⟨z.toArray⟩ ⟨y.toArray⟩ i=decide ((z.drop i).take y.length=y):=by
 unfold Builtin.Str.subAt
 have hl:(⟨y.toArray⟩:Str).length=y.length:=rfl
 rw [hl,Bool.eq_iff_iff,beq_iff_eq,decide_eq_true_eq]
 show (z.toArray.extract i (i + y.length)=y.toArray) ↔ _
 rw [<- Array.toList_inj]
 simp
theorem qqh (z y:List Nat):(decide (0 + (⟨y.toArray⟩:Str).length ≤ (⟨z.toArray⟩:Str).length) && Builtin.Str.subAt ⟨z.toArray⟩ ⟨y.toArray⟩ 0)=decide (z.take y.length=y):=by
 rw [rqo,List.drop_zero]
 show (decide (0 + y.length ≤ z.length) && _)=_
 by_cases h:z.take y.length=y
 ·have:=congrArg List.length h
  rw [List.length_take] at this
  rw [decide_eq_true h,decide_eq_true (show 0 + y.length ≤ z.length by omega)]
  rfl
 ·rw [decide_eq_false h,Bool.and_false]
theorem tqw (z y:List Nat):(decide (0 + (⟨y.toArray⟩:Str).length ≤ (⟨z.toArray⟩:Str).length) && Builtin.Str.subAt ⟨z.toArray⟩ ⟨y.toArray⟩ ((⟨z.toArray⟩:Str).length - (⟨y.toArray⟩:Str).length))=decide (z.drop (z.length - y.length)=y):=by
 rw [rqo]
 show (decide (0 + y.length ≤ z.length) && decide ((z.drop (z.length - y.length)).take y.length=y))=_
 have e:(z.drop (z.length - y.length)).length ≤ y.length->(z.drop (z.length - y.length)).take y.length=z.drop (z.length - y.length):=fun h => List.take_of_length_le h
 rw [e (by rw [List.length_drop]; omega)]
 by_cases h:z.drop (z.length - y.length)=y
 ·have:=congrArg List.length h
  rw [List.length_drop] at this
  rw [decide_eq_true h,decide_eq_true (show 0 + y.length ≤ z.length by omega)]
  rfl
 ·rw [decide_eq_false h,Bool.and_false]
theorem nq4:MtR X "str.startswith" rStart1:=by
 intro pins s σ H x vs v us Q I rx rv h
 obtain ⟨z,y,rfl,rfl,q⟩:=h
 obtain ⟨t,rfl⟩:=rx
 obtain ⟨u,rfl,t',rfl⟩:=vals1 rv
 refine call_meets F.slot_str_startswith (typeIs_str _ _ _) F.entry_str_startswith (F.args_str_startswith_2 _ _) (gives_str_startswith _ _ t t').meets ?_
 refine ⟨.bl _,H,I,rfl,?_⟩
 rw [<- qqh] at q
 exact q
theorem rqS:MtR X "str.endswith" rEnd1:=by
 intro pins s σ H x vs v us Q I rx rv h
 obtain ⟨z,y,rfl,rfl,q⟩:=h
 obtain ⟨t,rfl⟩:=rx
 obtain ⟨u,rfl,t',rfl⟩:=vals1 rv
 refine call_meets F.slot_str_endswith (typeIs_str _ _ _) F.entry_str_endswith (F.args_str_endswith_2 _ _) (gives_str_endswith _ _ t t').meets ?_
 refine ⟨.bl _,H,I,rfl,?_⟩
 rw [<- tqw] at q
 exact q
theorem tqT {i j:Nat}{ta:TA}{D:Ends}{σ:St}{H:Hp}:(tPar i j ta D σ H)=(ta σ H fun vs H1 => ∃ v w,vs=[v,w]∧D.nx ((σ.set i (some v)).set j (some w)) H1):=rfl
theorem pqd {z y:List Nat}{H:Hp}{Q:VK}:rStart1 (.str ⟨z.toArray⟩) [.str ⟨y.toArray⟩] H Q ↔ Q (.bl (decide (z.take y.length=y))) H :=
 ⟨fun ⟨z',y',e1,e2,h⟩ => by
  injection e1 with e1; injection e1 with e1
  injection e2 with e2; injection e2 with e2; injection e2 with e2
  have h1:z=z':=by simpa using congrArg Array.toList e1
  have h2:y=y':=by simpa using congrArg Array.toList e2
  subst h1 h2; exact h,fun h => ⟨z,y,rfl,rfl,h⟩⟩
theorem nqS {z y:List Nat}{H:Hp}{Q:VK}:rEnd1 (.str ⟨z.toArray⟩) [.str ⟨y.toArray⟩] H Q ↔ Q (.bl (decide (z.drop (z.length - y.length)=y))) H :=
 ⟨fun ⟨z',y',e1,e2,h⟩ => by
  injection e1 with e1; injection e1 with e1
  injection e2 with e2; injection e2 with e2; injection e2 with e2
  have h1:z=z':=by simpa using congrArg Array.toList e1
  have h2:y=y':=by simpa using congrArg Array.toList e2
  subst h1 h2; exact h,fun h => ⟨z,y,rfl,rfl,h⟩⟩
end
end L2
namespace L2
open PySem
section
variable {p:Addr}{fv:St}{tt:TT}{te:TE}{Q:VK}{H1:Hp}{K:PySem.W.Frag}
end
end L2
namespace Wm
open PySem L2
inductive Pc
 | step (s:List Nat)
 | part (h n t:List Nat)
 | num (n:List Nat)
 | word (n:List Nat)
 | gap (n:List Nat)
 | rest (n:List Nat)
abbrev tV (l:List Nat):V:=.str ⟨l.toArray⟩
def Pc.kw:Pc->Str
 | .step _ => Str.ofString "step"
 | .part .. => Str.ofString "part"
 | .num _ => Str.ofString "number"
 | .word _ => Str.ofString "word"
 | .gap _ => Str.ofString "gap"
 | .rest _ => Str.ofString "rest"
def Pc.tl:Pc->List V
 | .step s => [tV s]
 | .part h n t => [tV h,tV n,tV t]
 | .num n => [tV n]
 | .word n => [tV n]
 | .gap n => [tV n]
 | .rest n => [tV n]
def Pc.vals (c:Pc):List V:=.str c.kw :: c.tl
def Pc.name:Pc->List Nat
 | .step _ => []
 | .part _ n _ => n
 | .num n => n
 | .word n => n
 | .gap n => n
 | .rest n => n
def Pc.head:Pc->List Nat | .part h _ _ => h | _ => []
def Pc.tail:Pc->List Nat | .part _ _ t => t | _ => []
def Pc.isStep:Pc->Bool | .step _ => true | _ => false
def Pc.isPart:Pc->Bool | .part .. => true | _ => false
def Pc.isNum:Pc->Bool | .num _ => true | _ => false
def Pc.isWord:Pc->Bool | .word _ => true | _ => false
def Pc.isRest:Pc->Bool | .rest _ => true | _ => false
theorem Pc.at0 (c:Pc):atI c.vals 0=some (.str c.kw):=aqi (j:=0) rfl
theorem jq8 (c:Pc):decide (c.kw=Str.ofString "step")=c.isStep:=by cases c <;> first | exact decide_eq_true rfl | exact decide_eq_false (show ¬ (Str.ofString _=Str.ofString _) by decide +kernel)
theorem cqY (c:Pc):decide (c.kw=Str.ofString "part")=c.isPart:=by cases c <;> first | exact decide_eq_true rfl | exact decide_eq_false (show ¬ (Str.ofString _=Str.ofString _) by decide +kernel)
theorem fq0 (c:Pc):decide (c.kw=Str.ofString "number")=c.isNum:=by cases c <;> first | exact decide_eq_true rfl | exact decide_eq_false (show ¬ (Str.ofString _=Str.ofString _) by decide +kernel)
theorem jqz (c:Pc):decide (c.kw=Str.ofString "word")=c.isWord:=by cases c <;> first | exact decide_eq_true rfl | exact decide_eq_false (show ¬ (Str.ofString _=Str.ofString _) by decide +kernel)
theorem gqz (c:Pc):decide (c.kw=Str.ofString "rest")=c.isRest:=by cases c <;> first | exact decide_eq_true rfl | exact decide_eq_false (show ¬ (Str.ofString _=Str.ofString _) by decide +kernel)
def isFig (c:Nat):Bool:=decide (48 ≤ c∧c ≤ 57)
def isSma (c:Nat):Bool:=decide (97 ≤ c∧c ≤ 122)
def numB (l:List Nat):Bool:=decide (1 ≤ l.length) && decide (l.length ≤ 60) && l.all isFig && (decide (l=[48]) || !decide (l.head?=some 48))
def wordB (l:List Nat):Bool:=decide (1 ≤ l.length) && decide (l.length ≤ 60) && l.all isSma
def partB (h t s:List Nat):Bool:=decide (s.take h.length=h) && (decide (s.drop (s.length - t.length)=t) && decide (h.length + t.length < s.length))
def fitsM (c:Pc) (s:List Nat):Bool:=!isDot s && match c with
 | .step w => decide (s=w)
 | .part h _ t => partB h t s
 | .num _ => numB s
 | .word _ => wordB s
 | .gap _ => true
 | .rest _ => true
inductive Vl
 | txt (l:List Nat)
 | int (i:Int)
 | lst (ls:List (List Nat))
def intOf (l:List Nat):Int:=(PySem.intText? ⟨l.toArray⟩).getD 0
def amid (h t s:List Nat):List Nat:=(s.drop h.length).take (s.length - t.length - h.length)
def bvM (c:Pc) (ss:List (List Nat)):Vl:=match c with
 | .rest _ => .lst ss
 | .num _ => .int (intOf (ss.headD []))
 | _ => .txt (amid c.head c.tail (ss.headD []))
def VlV (H:Hp):Vl->V->Prop
 | .txt l,v => v=tV l
 | .int i,v => v=.int i
 | .lst ls,v => ∃ p,v=.ref p∧H p=some (.lst (ls.map tV))
theorem VlV.mono {H H':Hp} (s:Same H H'):∀ {x:Vl}{v:V},VlV H x v->VlV H' x v
 | .txt _,_,h => h
 | .int _,_,h => h
 | .lst _,_,⟨p,e,h⟩ => ⟨p,e,s _ _ h⟩
theorem tqb {l:List Nat} (h:l.all isFig=true) (h0:1 ≤ l.length) (h1:l.length ≤ 60):PySem.intText? ⟨l.toArray⟩=some (intOf l):=by
 have e:=intText_digits (x:=⟨l.toArray⟩) (fun c hc => by
  have:=List.all_eq_true.mp h c (by simpa using hc)
  simpa [isFig] using this) (by intro z; simp at z; rw [z] at h0; simp at h0) (by show l.length ≤ 4300; omega)
 unfold intOf
 rw [e]
 rfl
inductive PcAll (K:PySem.W.Frag) (H:Hp):List Pc->List V->Prop
 | nil:PcAll K H [] []
 | cons {c:Pc}{p:Addr}{cs:List Pc}{xs:List V}:SqT K H p c.vals->PcAll K H cs xs->PcAll K H (c :: cs) (.ref p :: xs)
theorem PcAll.mono {K:PySem.W.Frag}{H H':Hp} (s:Same H H'):∀ {cs:List Pc}{xs:List V},PcAll K H cs xs->PcAll K H' cs xs
 | _,_,.nil => .nil
 | _,_,.cons h r => .cons (s.tup h) (PcAll.mono s r)
theorem PcAll.length {K:PySem.W.Frag}{H:Hp}:∀ {cs:List Pc}{xs:List V},PcAll K H cs xs->xs.length=cs.length
 | _,_,.nil => rfl
 | _,_,.cons _ r => by simp [PcAll.length r]
theorem PcAll.get {K:PySem.W.Frag}{H:Hp}:∀ {cs:List Pc}{xs:List V},PcAll K H cs xs->∀ {i:Nat}{v:V},xs[i]?=some v->∃ c p,cs[i]?=some c∧v=.ref p∧SqT K H p c.vals
 | _,_,.nil,i,v,e => by simp at e
 | _,_,.cons h r,0,v,e => by cases e; exact ⟨_,_,rfl,rfl,h⟩
 | _,_,.cons h r,i + 1,v,e => by simp only [List.getElem?_cons_succ] at e ⊢; exact r.get e
theorem PcAll.append {K:PySem.W.Frag}{H:Hp}{ds:List Pc}{ys:List V} (h2:PcAll K H ds ys):∀ {cs:List Pc}{xs:List V},PcAll K H cs xs->PcAll K H (cs ++ ds) (xs ++ ys)
 | _,_,.nil => h2
 | _,_,.cons h r => .cons h (PcAll.append h2 r)
def hasRest (cs:List Pc):Bool:=match cs.getLast? with
 | some c => c.isRest
 | none => false
def smaL:List Nat:=(Str.ofString "abcdefghijklmnopqrstuvwxyz").cps.toList
theorem oqT:∀ c,c < 128->(c ∈ smaL ↔ isSma c=true):=by decide +kernel
theorem mqD:∀ c ∈ smaL,c < 128:=by decide +kernel
theorem sqV (l:List Nat):l.all isSma=l.all fun c => decide (c ∈ smaL):=by
 congr 1
 funext c
 by_cases h:c < 128
 ·rw [Bool.eq_iff_iff,decide_eq_true_eq]; exact (oqT c h).symm
 ·have h1:¬ c ∈ smaL:=fun z => h (mqD c z)
  rw [decide_eq_false h1]
  unfold isSma
  exact decide_eq_false (by omega)
theorem sqt (l:List Nat):(l.all fun c => decide (c ∈ fgS))=l.all isFig:=by
 congr 1
 funext c
 unfold isFig
 exact decide_eq_decide.mpr uqw
theorem PcAll.last {K:PySem.W.Frag}{H:Hp}{cs:List Pc}{xs:List V}{c:Pc} (h:PcAll K H cs xs) (hc:cs.getLast?=some c):∃ v,atI xs (-1)=some v∧∃ p,v=.ref p∧SqT K H p c.vals:=by
 have hl:=h.length
 have hn:cs ≠ []:=by rintro rfl; cases hc
 have hp:=List.length_pos_iff.mpr hn
 obtain ⟨v,hx⟩:∃ v,xs[cs.length - 1]?=some v:=⟨_,List.getElem?_eq_getElem (by omega)⟩
 obtain ⟨d,p,e1,e2,e3⟩:=h.get hx
 rw [List.getLast?_eq_getElem?] at hc
 rw [hc] at e1
 cases e1
 refine ⟨v,?_,p,e2,e3⟩
 have hg:xs.getLast?=some v:=by rw [List.getLast?_eq_getElem?,hl]; exact hx
 have:=qqs (l:=xs) (fun v => v) hg
 simpa using this
def spreadM (cs:List Pc) (n:Nat):Option (List Pc):=if hasRest cs=true∧cs.length ≤ n then some (cs ++ (List.replicate (n - cs.length) (cs.drop (cs.length - 1))).flatten) else if n=cs.length then some cs else none
theorem cq9 (s:List Nat):amid [] [] s=s:=by unfold amid; simp
def fitsP (cs:List Pc) (cl r:Bool) (ss:List (List Nat)) (e:Bool):Bool:=match spreadM cs ss.length with
 | none => false
 | some ds => r && decide (e=cl) && (List.zipWith fitsM ds ss).all id
def boundM:List Pc->List (List Nat)->List (List Nat × Vl)
 | [],_ => []
 | c :: cs,ss => (if c.isStep then [] else [(c.name,bvM c ss)]) ++ boundM cs (ss.drop 1)
inductive BndV (H:Hp) (l:Addr):List (List Nat × Vl)->List V->Prop
 | nil:BndV H l [] []
 | cons {n:List Nat}{x:Vl}{p:Addr}{v:V}{bs:List (List Nat × Vl)}{ys:List V}:H p=some (.tup [tV n,v])->VlV H x v->(∀ q,v=.ref q->q ≠ l)->BndV H l bs ys->BndV H l ((n,x) :: bs) (.ref p :: ys)
theorem BndV.mono {H H':Hp}{l:Addr} (s:Same H H'):∀ {bs:List (List Nat × Vl)}{ys:List V},BndV H l bs ys->BndV H' l bs ys
 | _,_,.nil => .nil
 | _,_,.cons h v n r => .cons (s _ _ h) (v.mono s) n (BndV.mono s r)
theorem VlV.upd {H:Hp}{l:Addr}{o:HO}:∀ {x:Vl}{v:V},VlV H x v->(∀ q,v=.ref q->q ≠ l)->VlV (L2.upd H l o) x v
 | .txt _,_,h,_ => h
 | .int _,_,h,_ => h
 | .lst _,_,⟨p,e,h⟩,hn => ⟨p,e,by rw [aqq (hn p e)]; exact h⟩
theorem BndV.upd {H:Hp}{l:Addr}{o:HO}{xs:List V} (hl:H l=some (.lst xs)):∀ {bs:List (List Nat × Vl)}{ys:List V},BndV H l bs ys->BndV (L2.upd H l o) l bs ys
 | _,_,.nil => .nil
 | _,_,.cons h v n r => .cons (by rw [aqq (uqo h hl (by intro z; cases z))]; exact h) (v.upd n) n (BndV.upd hl r)
theorem BndV.snoc {H:Hp}{l:Addr}{n:List Nat}{x:Vl}{p:Addr}{v:V} (h:H p=some (.tup [tV n,v])) (hv:VlV H x v) (hn:∀ q,v=.ref q->q ≠ l):∀ {bs:List (List Nat × Vl)}{ys:List V},BndV H l bs ys->BndV H l (bs ++ [(n,x)]) (ys ++ [.ref p])
 | _,_,.nil => .cons h hv hn .nil
 | _,_,.cons a b c r => .cons a b c (BndV.snoc h hv hn r)
theorem BndV.length {H:Hp}{l:Addr}:∀ {bs:List (List Nat × Vl)}{ys:List V},BndV H l bs ys->ys.length=bs.length
 | _,_,.nil => rfl
 | _,_,.cons _ _ _ r => by simp [BndV.length r]
theorem iqT:∀ (cs:List Pc) (ss:List (List Nat)),(boundM cs ss).length ≤ cs.length
 | [],_ => Nat.le_refl _
 | c :: cs,ss => by
  have:=iqT cs (ss.drop 1)
  unfold boundM
  rw [List.length_append]
  split <;> simp only [List.length_nil,List.length_cons] <;> omega
theorem hqS:∀ (cs:List Pc) (ss:List (List Nat)) (i:Nat) (c:Pc),cs[i]?=some c->boundM (cs.take (i + 1)) ss=boundM (cs.take i) ss ++ (if c.isStep then [] else [(c.name,bvM c (ss.drop i))])
 | [],ss,i,c,h => by simp at h
 | d :: cs,ss,0,c,h => by
  cases h
  show _ ++ boundM (cs.take 0) (ss.drop 1)=boundM [] ss ++ _
  simp [boundM]
 | d :: cs,ss,i + 1,c,h => by
  have:=hqS cs (ss.drop 1) i c (by simpa using h)
  show _ ++ boundM (cs.take (i + 1)) (ss.drop 1)=(_ ++ boundM (cs.take i) (ss.drop 1)) ++ _
  rw [this,List.append_assoc,List.drop_drop,Nat.add_comm 1 i]
theorem jqe {cs ds:List Pc}{n:Nat} (h:spreadM cs n=some ds):cs.length ≤ n∧∃ es,ds=cs ++ es:=by
 unfold spreadM at h
 split at h
 ·rename_i hh
  cases h
  exact ⟨hh.2,_,rfl⟩
 ·split at h
  ·rename_i hh
   cases h
   exact ⟨by omega,[],by simp⟩
  ·cases h
theorem jqr {cs:List Pc}{cl r e:Bool}{ss:List (List Nat)} (h:fitsP cs cl r ss e=true) {i:Nat}{c:Pc} (hc:cs[i]?=some c):∃ s,ss[i]?=some s∧fitsM c s=true:=by
 unfold fitsP at h
 split at h
 ·cases h
 ·rename_i ds hd
  obtain ⟨hl,es,rfl⟩:=jqe hd
  have hi:=(List.getElem?_eq_some_iff.mp hc).1
  have hs:ss[i]?=some ss[i]:=List.getElem?_eq_getElem (by omega)
  refine ⟨_,hs,?_⟩
  have ha:=(Bool.and_eq_true _ _ ▸ h).2
  have hz:(List.zipWith fitsM (cs ++ es) ss)[i]?=some (fitsM c ss[i]):=by
   rw [List.getElem?_zipWith,List.getElem?_append_left hi,hc,hs]
  exact List.all_eq_true.mp ha _ (List.mem_of_getElem? hz)
theorem jqU {n s:List Nat} (h:fitsM (.num n) s=true):1 ≤ s.length∧s.length ≤ 60∧s.all isFig=true:=by
 unfold fitsM numB at h
 simp only [Bool.and_eq_true,decide_eq_true_eq] at h
 exact ⟨h.2.1.1.1,h.2.1.1.2,h.2.1.2⟩
theorem jq7 {h n t s:List Nat} (hf:fitsM (.part h n t) s=true):(Pc.part h n t).head.length + (Pc.part h n t).tail.length ≤ s.length:=by
 unfold fitsM partB at hf
 simp only [Bool.and_eq_true,decide_eq_true_eq] at hf
 have:=hf.2.2.2
 show h.length + t.length ≤ s.length
 omega
theorem jqQ (xs:List V):cutV xs (some (-1)) none=xs.drop (xs.length - 1):=by
 unfold cutV
 rw [HT.sIx_none]
 have e:HT.sIx xs.length 0 (some (-1))=xs.length - 1:=by
  unfold HT.sIx
  simp only [if_pos (show (-1:Int) < 0 by decide)]
  omega
 rw [e,List.take_of_length_le (by rw [List.length_drop]; omega)]
theorem PcAll.drop {K:PySem.W.Frag}{H:Hp}:∀ {cs:List Pc}{xs:List V},PcAll K H cs xs->∀ i,PcAll K H (cs.drop i) (xs.drop i)
 | _,_,h,0 => h
 | _,_,.nil,i + 1 => .nil
 | _,_,.cons _ r,i + 1 => r.drop i
theorem PcAll.reps {K:PySem.W.Frag}{H:Hp}{cs:List Pc}{xs:List V} (h:PcAll K H cs xs):∀ m:Nat,PcAll K H (List.replicate m cs).flatten (List.replicate m xs).flatten
 | 0 => .nil
 | m + 1 => by
  rw [List.replicate_succ,List.replicate_succ,List.flatten_cons,List.flatten_cons]
  exact (h.reps m).append h
theorem pqG {α:Type} (xs:List α) (m:Nat) (h:xs.length ≤ 1):(List.replicate m xs).flatten.length ≤ m:=by
 induction m with
 | zero => simp
 | succ m ih =>
  rw [List.replicate_succ,List.flatten_cons,List.length_append]
  omega
def PcSz (cs:List Pc):Prop:=∀ c ∈ cs,c.head.length ≤ 100000∧c.tail.length ≤ 100000
theorem nqz {cs ds:List Pc}{n:Nat} (h:spreadM cs n=some ds):∀ c ∈ ds,c ∈ cs:=by
 unfold spreadM at h
 split at h
 ·cases h
  intro c hc
  rcases List.mem_append.mp hc with hc | hc
  ·exact hc
  ·obtain ⟨l,hl,hc⟩:=List.mem_flatten.mp hc
   rw [List.eq_of_mem_replicate hl] at hc
   exact List.mem_of_mem_drop hc
 ·split at h
  ·cases h; exact fun c hc => hc
  ·cases h
theorem jqm {cs ds:List Pc}{n:Nat} (h:spreadM cs n=some ds):ds.length=n:=by
 unfold spreadM at h
 split at h
 ·rename_i hh
  cases h
  have hne:cs ≠ []:=by rintro rfl; exact absurd hh.1 (by decide)
  have hp:=List.length_pos_iff.mpr hne
  have e:∀ m,(List.replicate m (cs.drop (cs.length - 1))).flatten.length=m:=fun m => by
   induction m with
   | zero => simp
   | succ m ih =>
    rw [List.replicate_succ,List.flatten_cons,List.length_append,ih,List.length_drop]
    omega
  rw [List.length_append,e]
  omega
 ·split at h
  ·rename_i hh
   cases h; omega
  ·cases h
theorem hqB (xs:List V) (i:Nat):cutV xs (some (i:Int)) none=xs.drop i:=by
 unfold cutV
 rw [HT.sIx_none,HT.sIx_nat]
 by_cases h:i ≤ xs.length
 ·rw [Nat.min_eq_left h,List.take_of_length_le (by rw [List.length_drop]; omega)]
 ·rw [Nat.min_eq_right (by omega),List.drop_of_length_le (Nat.le_refl _),List.drop_of_length_le (by omega)]
  simp
theorem rqn (i:Int):∃ c,atI smaL (i % 26)=some c∧isSma c=true:=by
 have h1:=Int.emod_nonneg i (show (26:Int) ≠ 0 by decide)
 have h2:=Int.emod_lt_of_pos i (show (0:Int) < 26 by decide)
 have hl:smaL.length=26:=by decide +kernel
 have h3:(i % 26).toNat < smaL.length:=by omega
 refine ⟨smaL[(i % 26).toNat],?_,(oqT _ (mqD _ (List.getElem_mem h3))).mp (List.getElem_mem h3)⟩
 have:=aqi (List.getElem?_eq_getElem h3)
 rw [Int.toNat_of_nonneg h1] at this
 exact this
def PcOk:Pc->Prop
 | .step s => 0 < s.length∧s.length ≤ 100∧(∀ c ∈ s,isSg c=true)∧isDot s=false
 | .part h _ t => h.length ≤ 100∧t.length ≤ 100∧(∀ c ∈ h,isSg c=true)∧(∀ c ∈ t,isSg c=true)∧h ++ t ≠ []
 | _ => True
theorem nqI (s:Stp):inV (sV s) [sV [],sV sStay,sV sUp]=(decide (s=[]) || isDot s):=by
 have e:∀ a:Stp,eqV (sV a) (sV s)=decide (s=a):=fun a => by
  show ((⟨a.toArray⟩:Str) == ⟨s.toArray⟩)=decide (s=a)
  rw [Bool.eq_iff_iff,beq_iff_eq,decide_eq_true_eq,dqT]
  exact ⟨Eq.symm,Eq.symm⟩
 have h:=oqf s
 unfold inV at h ⊢
 rw [List.any_cons,h,e]
theorem pqO (l:List Nat) (d:Nat) (h:d ≠ 46):isDot (l ++ [d])=false:=by
 refine iqf.mpr ⟨fun z => ?_,fun z => ?_⟩
 ·have:(l ++ [d]).getLast?=sUp.getLast?:=by rw [z]
  rw [List.getLast?_append] at this
  exact h (by simpa [sUp] using this)
 ·have:(l ++ [d]).getLast?=sStay.getLast?:=by rw [z]
  rw [List.getLast?_append] at this
  exact h (by simpa [sStay] using this)
theorem layL {n:Nat}{ds:List PyData} (h:∀ d ∈ ds,LayAt n d):LayAt (n + 1) (.list ds):=by
 obtain ⟨h1,h2⟩:=layAll h
 exact ⟨by simp only [PyData.canLay0,h1],by simp only [PyData.depth]; omega⟩
def vlD:Vl->PyData
 | .txt l => st l
 | .int i => .int i
 | .lst ls => .list (ls.map st)
theorem kqb {H:Hp}:∀ (ls:List (List Nat)),IsAll H (ls.map st) (ls.map tV)
 | [] => .nil
 | l :: ls => .cons (.str _) (kqb ls)
theorem VlV.is {H:Hp}:∀ {x:Vl}{v:V},VlV H x v->Is H (vlD x) v
 | .txt l,_,h => by cases h; exact .str _
 | .int i,_,h => by cases h; exact .int _
 | .lst ls,_,⟨p,e,h⟩ => by cases e; exact .lst h (kqb ls)
theorem mqx {l:List Nat} (h:l.all isSma=true):∀ c ∈ l,isSg c=true:=fun c hc => by
 have:=List.all_eq_true.mp h c hc
 simp only [isSma,decide_eq_true_eq] at this
 simp only [isSg,Bool.and_eq_true,decide_eq_true_eq,Bool.not_eq_true',decide_eq_false_iff_not]
 omega
def NmAt (X:Int) (a k:Nat) (n:List Nat):Prop:=∃ d,n[a]?=some d∧atI smaL ((X + (k:Int)) % 26)=some d
theorem NmAt.app {X:Int}{a k:Nat}{n m:List Nat} (h:NmAt X a k n):NmAt X a k (n ++ m):=by
 obtain ⟨d,h1,h2⟩:=h
 exact ⟨d,by rw [List.getElem?_append_left (List.getElem?_eq_some_iff.mp h1).1]; exact h1,h2⟩
theorem rqt:∀ i,i < 26->∀ j,j < 26->smaL[i]?=smaL[j]?->i=j:=by decide +kernel
theorem qqY {X:Int}{a:Nat}{ns:List (List Nat)} (h:∀ (k:Nat) (n:List Nat),ns[k]?=some n->NmAt X a k n) (hl:ns.length ≤ 26):ns.Nodup:=by
 rw [List.nodup_iff_pairwise_ne,List.pairwise_iff_getElem]
 intro i j hi hj hij e
 obtain ⟨d,h1,h2⟩:=h i _ (List.getElem?_eq_getElem hi)
 obtain ⟨d',h3,h4⟩:=h j _ (List.getElem?_eq_getElem hj)
 rw [e,h3] at h1
 cases h1
 have m1:=Int.emod_nonneg (X + (i:Int)) (show (26:Int) ≠ 0 by decide)
 have m2:=Int.emod_lt_of_pos (X + (i:Int)) (show (0:Int) < 26 by decide)
 have m3:=Int.emod_nonneg (X + (j:Int)) (show (26:Int) ≠ 0 by decide)
 have m4:=Int.emod_lt_of_pos (X + (j:Int)) (show (0:Int) < 26 by decide)
 have at_get:∀ {z:Int},0 ≤ z->z < 26->atI smaL z=smaL[z.toNat]?:=fun {z} z0 z1 => by
  obtain ⟨n,rfl⟩:=Int.eq_ofNat_of_zero_le z0
  have hl:smaL.length=26:=by decide +kernel
  have hn:n < smaL.length:=by omega
  rw [aqi (List.getElem?_eq_getElem hn),<- List.getElem?_eq_getElem hn]
  rfl
 rw [at_get m1 m2] at h2
 rw [at_get m3 m4] at h4
 have:=rqt _ (by omega) _ (by omega) (h2.trans h4.symm)
 omega
inductive PcT (H:Hp):List Pc->List V->Prop
 | nil:PcT H [] []
 | cons {c:Pc}{p:Addr}{cs:List Pc}{xs:List V}:H p=some (.tup c.vals)->PcT H cs xs->PcT H (c :: cs) (.ref p :: xs)
theorem PcT.mono {H H':Hp} (s:SameT H H'):∀ {cs:List Pc}{xs:List V},PcT H cs xs->PcT H' cs xs
 | _,_,.nil => .nil
 | _,_,.cons h r => .cons (s _ _ h) (PcT.mono s r)
theorem PcT.all {K:PySem.W.Frag}{H:Hp}:∀ {cs:List Pc}{xs:List V},PcT H cs xs->PcAll K H cs xs
 | _,_,.nil => .nil
 | _,_,.cons h r => .cons (.of h) (PcT.all r)
theorem PcT.length {H:Hp}:∀ {cs:List Pc}{xs:List V},PcT H cs xs->xs.length=cs.length
 | _,_,.nil => rfl
 | _,_,.cons _ r => by simp [PcT.length r]
theorem PcT.append {H:Hp}{ds:List Pc}{ys:List V} (h2:PcT H ds ys):∀ {cs:List Pc}{xs:List V},PcT H cs xs->PcT H (cs ++ ds) (xs ++ ys)
 | _,_,.nil => h2
 | _,_,.cons h r => .cons h (PcT.append h2 r)
theorem PcT.take {H:Hp}:∀ {cs:List Pc}{xs:List V} (n:Nat),PcT H cs xs->PcT H (cs.take n) (xs.take n)
 | _,_,0,_ => .nil
 | _,_,_ + 1,.nil => .nil
 | _,_,n + 1,.cons h r => .cons h (PcT.take n r)
theorem PcT.drop {H:Hp}:∀ {cs:List Pc}{xs:List V} (n:Nat),PcT H cs xs->PcT H (cs.drop n) (xs.drop n)
 | _,_,0,h => h
 | _,_,_ + 1,.nil => .nil
 | _,_,n + 1,.cons _ r => PcT.drop n r
theorem PcT.get {H:Hp}:∀ {cs:List Pc}{xs:List V},PcT H cs xs->∀ {i:Nat}{v:V},xs[i]?=some v->∃ c p,cs[i]?=some c∧v=.ref p∧H p=some (.tup c.vals)
 | _,_,.cons h _,0,_,e => by cases e; exact ⟨_,_,rfl,rfl,h⟩
 | _,_,.cons _ r,i + 1,_,e => PcT.get r (i:=i) (by simpa using e)
 | _,_,.nil,_,_,e => by cases e
def pcD (c:Pc):PyData:=.tuple (.str c.kw :: match c with
 | .step s => [st s]
 | .part h n t => [st h,st n,st t]
 | .num n => [st n]
 | .word n => [st n]
 | .gap n => [st n]
 | .rest n => [st n])
theorem PcT.isT {H:Hp}:∀ {cs:List Pc}{xs:List V},PcT H cs xs->IsTAll H (cs.map pcD) xs
 | _,_,.nil => .nil
 | c :: _,_,.cons h r => by
  refine .cons ?_ (PcT.isT r)
  cases c with
  | step s => exact .tup h (.cons (.str _) (.cons (.str _) .nil))
  | part a b d => exact .tup h (.cons (.str _) (.cons (.str _) (.cons (.str _) (.cons (.str _) .nil))))
  | num n => exact .tup h (.cons (.str _) (.cons (.str _) .nil))
  | word n => exact .tup h (.cons (.str _) (.cons (.str _) .nil))
  | gap n => exact .tup h (.cons (.str _) (.cons (.str _) .nil))
  | rest n => exact .tup h (.cons (.str _) (.cons (.str _) .nil))
def PcSg (c:Pc):Prop:=(∀ l,c=.step l->∀ x ∈ l,isSg x=true)∧(∀ h n t,c=.part h n t->(∀ x ∈ h,isSg x=true)∧∀ x ∈ t,isSg x=true)∧∀ x ∈ c.name,isSg x=true
theorem oqj {c:Pc} (h:PcSg c):LayAt 1 (pcD c):=by
 have kwl:∀ s:Str,s ∈ [Str.ofString "step",Str.ofString "part",Str.ofString "number",Str.ofString "word",Str.ofString "gap",Str.ofString "rest"]->LayAt 0 (PyData.str s):=fun s hs => by
  have all:∀ s ∈ [Str.ofString "step",Str.ofString "part",Str.ofString "number",Str.ofString "word",Str.ofString "gap",Str.ofString "rest"],∀ x ∈ s.cps.toList,isSg x=true:=by decide +kernel
  exact LayAt.st (l:=s.cps.toList) (all s hs)
 have one:∀ (k:Str) (l:List Nat),k ∈ [Str.ofString "step",Str.ofString "part",Str.ofString "number",Str.ofString "word",Str.ofString "gap",Str.ofString "rest"]->(∀ x ∈ l,isSg x=true)->LayAt 1 (.tuple [.str k,st l]):=fun k l hk hl => LayAt.tup (n:=0) fun d hd => by
  simp only [List.mem_cons,List.not_mem_nil,or_false] at hd
  rcases hd with rfl | rfl
  ·exact kwl k hk
  ·exact LayAt.st hl
 cases c with
 | step s => exact one _ s (by simp [Pc.kw]) (h.1 s rfl)
 | part a b d =>
  obtain ⟨h1,h2⟩:=h.2.1 a b d rfl
  refine LayAt.tup (n:=0) fun x hx => ?_
  simp only [List.mem_cons,List.not_mem_nil,or_false] at hx
  rcases hx with rfl | rfl | rfl | rfl
  ·exact kwl _ (by simp [Pc.kw])
  ·exact LayAt.st h1
  ·exact LayAt.st h.2.2
  ·exact LayAt.st h2
 | num n => exact one _ n (by simp [Pc.kw]) h.2.2
 | word n => exact one _ n (by simp [Pc.kw]) h.2.2
 | gap n => exact one _ n (by simp [Pc.kw]) h.2.2
 | rest n => exact one _ n (by simp [Pc.kw]) h.2.2
theorem mqE {cs:List Pc} (h:∀ c ∈ cs,PcSg c):LayAt 2 (.list (cs.map pcD)):=layL fun d hd => by
 obtain ⟨c,hc,rfl⟩:=List.mem_map.mp hd
 exact oqj (h c hc)
theorem qqC {cs:List Pc} (h:∀ c ∈ cs,PcSg c):LayAt 2 (.tuple (cs.map pcD)):=LayAt.tup fun d hd => by
 obtain ⟨c,hc,rfl⟩:=List.mem_map.mp hd
 exact oqj (h c hc)
end Wm
namespace L2
open PySem PySem.Spec PyProof.Rows
section
variable {p:Addr}{fv:St}{tt:TT}{te:TE}{Q:VK}{H H1:Hp}{K:PySem.W.Frag}
theorem qq4 {l b:Addr}:rExtend (.ref l) [.ref b] H Q ↔ ∃ xs zs,H l=some (.lst xs)∧H b=some (.lst zs)∧xs.length + zs.length ≤ sizeLine∧Q .non (upd H l (.lst (xs ++ zs))):=by
 constructor
 ·rintro ⟨l',b',xs,zs,h1,h2,h3⟩
  cases h1; cases h2
  exact ⟨xs,zs,h3⟩
 ·rintro ⟨xs,zs,h⟩
  exact ⟨l,b,xs,zs,rfl,rfl,h⟩
theorem oql {tl:TE}{fr:List Nat}{σ:St}:(tComp2 K (iList K tl) fr tt te σ H Q)=(tl σ H fun x H1 => ∃ a,x=.ref a∧(∃ xs,SqL K H1 a xs)∧∀ p,H1 p=none->CompI2 K (Itl K a) p (frV σ fr) tt te Q H1):=rfl
theorem lqW {a:Addr}{xs:List V} (f:Nat->V × V) (t:Nat->Bool) (g:Nat->V) (hxs:SqL K H1 a xs) (hlen:xs.length ≤ sizeLine) (hp:H1 p=none)
  (hit:∀ (i:Nat) (x:V) (H':Hp),xs[i]?=some x->Same H1 H'->∃ b,x=.ref b∧SqT K H' b [(f i).1,(f i).2])
  (ht:∀ (i:Nat),i < xs.length->∀ (H':Hp) (R:Bool->Hp->Prop),Same H1 H'->(∀ H'',Same H' H''->R (t i) H'')->tt (some (f i).1 :: some (f i).2 :: fv) H' R)
  (he:∀ (i:Nat),i < xs.length->t i=true->∀ (H':Hp) (T:VK),Same H1 H'->(∀ H'',Same H' H''->T (g i) H'')->te (some (f i).1 :: some (f i).2 :: fv) H' T)
  (hQ:∀ H',Same H1 H'->H' p=some (.lst (((List.range xs.length).filter t).map g))->Q (.ref p) H'):CompI2 K (Itl K a) p fv tt te Q H1:=by
 refine ⟨fun i m ys H2 => m=xs.length - i∧i ≤ xs.length∧ys=((List.range i).filter t).map g∧H2 p=some (.lst ys)∧Same H1 H2,⟨xs.length,by simp,Nat.zero_le _,by simp,aqk,fun b o e => by rw [aqq (aql e hp)]; exact e⟩,?_⟩
 rintro i m ys H2 ⟨rfl,hi,rfl,hp2,sm⟩
 refine ⟨hp2,?_⟩
 have q:=sm.seq hxs
 by_cases hlt:i < xs.length
 ·refine .inr ⟨⟨xs,xs[i],q,by simp [hlt]⟩,?_,fun x H3 y => ?_⟩
  ·rw [List.length_map]
   have:=List.length_filter_le t (List.range i)
   rw [List.length_range] at this
   omega
  ·obtain ⟨rfl,y⟩:=y
   have hc:=y xs q
   obtain ⟨b,rfl,hb⟩:=hit i x H3 hc sm
   refine ⟨b,_,_,rfl,hb,?_⟩
   refine ht i hlt _ _ sm fun H4 s4 => ?_
   by_cases hf:t i=true
   ·rw [if_pos hf]
    refine he i hlt hf _ _ (sm.trans s4) fun H5 s5 => ⟨(s4.trans s5) _ _ hp2,xs.length - (i + 1),by omega,rfl,hlt,?_,aqk,fun b o e => ?_⟩
    ·rw [List.range_succ,List.filter_append,List.map_append]; simp [hf]
    ·rw [aqq (aql e hp)]; exact (s4.trans s5) _ _ (sm _ _ e)
   ·rw [if_neg hf]
    refine ⟨xs.length - (i + 1),by omega,rfl,hlt,?_,s4 _ _ hp2,sm.trans s4⟩
    rw [List.range_succ,List.filter_append,List.map_append]; simp [hf]
 ·have e:i=xs.length:=by omega
  subst e
  exact .inl ⟨⟨xs,q,Nat.le_refl _⟩,hQ H2 sm hp2⟩
theorem iqP {a:Addr}{xs:List V} (t:Nat->Bool) (g:Nat->V) (hxs:SqT K H1 a xs) (hlen:xs.length ≤ sizeLine) (hp:H1 p=none)
  (ht:∀ (i:Nat) (x:V),xs[i]?=some x->∀ (H':Hp) (R:Bool->Hp->Prop),Same H1 H'->(∀ H'',Same H' H''->R (t i) H'')->tt (some x :: fv) H' R)
  (he:∀ (i:Nat) (x:V),xs[i]?=some x->t i=true->∀ (H':Hp) (T:VK),Same H1 H'->(∀ H'',Same H' H''->T (g i) H'')->te (some x :: fv) H' T)
  (hQ:∀ H',Same H1 H'->H' p=some (.lst (((List.range xs.length).filter t).map g))->Q (.ref p) H'):CompI (Itt K a) p fv tt te Q H1:=by
 refine ⟨fun i m ys H2 => m=xs.length - i∧i ≤ xs.length∧ys=((List.range i).filter t).map g∧H2 p=some (.lst ys)∧Same H1 H2,⟨xs.length,by simp,Nat.zero_le _,by simp,aqk,fun b o e => by rw [aqq (aql e hp)]; exact e⟩,?_⟩
 rintro i m ys H2 ⟨rfl,hi,rfl,hp2,sm⟩
 refine ⟨hp2,?_⟩
 have q:=sm.tup hxs
 by_cases hlt:i < xs.length
 ·refine .inr ⟨⟨xs,xs[i],q,by simp [hlt]⟩,?_,fun x H3 y => ?_⟩
  ·rw [List.length_map]
   have:=List.length_filter_le t (List.range i)
   rw [List.length_range] at this
   omega
  ·obtain ⟨rfl,y⟩:=y
   have hc:=y xs q
   refine ht i x hc _ _ sm fun H4 s4 => ?_
   by_cases hf:t i=true
   ·rw [if_pos hf]
    refine he i x hc hf _ _ (sm.trans s4) fun H5 s5 => ⟨(s4.trans s5) _ _ hp2,xs.length - (i + 1),by omega,rfl,hlt,?_,aqk,fun b o e => ?_⟩
    ·rw [List.range_succ,List.filter_append,List.map_append]; simp [hf]
    ·rw [aqq (aql e hp)]; exact (s4.trans s5) _ _ (sm _ _ e)
   ·rw [if_neg hf]
    refine ⟨xs.length - (i + 1),by omega,rfl,hlt,?_,s4 _ _ hp2,sm.trans s4⟩
    rw [List.range_succ,List.filter_append,List.map_append]; simp [hf]
 ·have e:i=xs.length:=by omega
  subst e
  exact .inl ⟨⟨xs,q,Nat.le_refl _⟩,hQ H2 sm hp2⟩
end
end L2
namespace Wm
open PySem L2
theorem eqW {α β:Type} (f:α->Bool) (g:α->β) (d:β):∀ (l:List α),((List.range l.length).filter fun i => (l[i]?.map f).getD false).map (fun i => (l[i]?.map g).getD d)=(l.filter f).map g
 | [] => rfl
 | a :: l => by
  have ih:=eqW f g d l
  have e2:((((List.range l.length).map Nat.succ).filter fun i => (((a :: l)[i]?).map f).getD false).map fun i => (((a :: l)[i]?).map g).getD d)=(l.filter f).map g:=by
   rw [List.filter_map,List.map_map,<- ih]
   rfl
  rw [List.length_cons,List.range_succ_eq_map,List.filter_cons]
  by_cases hf:f a=true
  ·rw [if_pos (by simp [hf]),List.map_cons,e2,List.filter_cons,if_pos hf,List.map_cons]
   rfl
  ·rw [if_neg (by simp [hf]),e2,List.filter_cons,if_neg hf]
def canD:PyData->Bool
 | .str s => s.cps.toList.all isSg && decide (0 < s.length) && !isDot s.cps.toList
 | _ => false
def txD:PyData->List Nat
 | .str s => s.cps.toList
 | _ => []
def isValD (c:Pc) (d:PyData):Bool:=match c with
 | .rest _ => match d with
  | .list ds => decide (0 < ds.length) && ds.all canD
  | _ => false
 | .num _ => match d with
  | .int i => decide (0 ≤ i∧i < 10 ^ 60)
  | _ => false
 | .word _ => match d with
  | .str s => wordB s.cps.toList
  | _ => false
 | .step _ => false
 | .part h _ t => ftx d && !isDot (h ++ txD d ++ t)
 | .gap _ => ftx d && !isDot (txD d)
def stpsD (c:Pc) (d:PyData):List (List Nat):=match c with
 | .rest _ => match d with
  | .list ds => ds.map txD
  | _ => []
 | .num _ => match d with
  | .int i => [dg i]
  | _ => []
 | .step s => [s]
 | c => [c.head ++ txD d ++ c.tail]
inductive VlsV (H:Hp):List (List Nat × PyData)->List V->Prop
 | nil:VlsV H [] []
 | cons {n:List Nat}{d:PyData}{p:Addr}{v:V}{vs:List (List Nat × PyData)}{xs:List V}:H p=some (.tup [tV n,v])->Is H d v->VlsV H vs xs->VlsV H ((n,d) :: vs) (.ref p :: xs)
theorem VlsV.mono {H H':Hp} (s:Same H H'):∀ {vs:List (List Nat × PyData)}{xs:List V},VlsV H vs xs->VlsV H' vs xs
 | _,_,.nil => .nil
 | _,_,.cons h a r => .cons (s _ _ h) (a.mono s) (VlsV.mono s r)
theorem VlsV.length {H:Hp}:∀ {vs:List (List Nat × PyData)}{xs:List V},VlsV H vs xs->xs.length=vs.length
 | _,_,.nil => rfl
 | _,_,.cons _ _ r => by simp [VlsV.length r]
theorem VlsV.get {H:Hp}:∀ {vs:List (List Nat × PyData)}{xs:List V},VlsV H vs xs->∀ {i:Nat}{x:V},xs[i]?=some x->∃ n d p v,vs[i]?=some (n,d)∧x=.ref p∧H p=some (.tup [tV n,v])∧Is H d v
 | _,_,.cons h a _,0,_,e => by cases e; exact ⟨_,_,_,_,rfl,rfl,h,a⟩
 | _,_,.cons _ _ r,i + 1,_,e => VlsV.get r (i:=i) (by simpa using e)
 | _,_,.nil,_,_,e => by cases e
theorem VlsV.append {H:Hp}{ws:List (List Nat × PyData)}{ys:List V} (h2:VlsV H ws ys):∀ {vs:List (List Nat × PyData)}{xs:List V},VlsV H vs xs->VlsV H (vs ++ ws) (xs ++ ys)
 | _,_,.nil => h2
 | _,_,.cons h a r => .cons h a (VlsV.append h2 r)
theorem VlsV.take {H:Hp}:∀ {vs:List (List Nat × PyData)}{xs:List V} (n:Nat),VlsV H vs xs->VlsV H (vs.take n) (xs.take n)
 | _,_,0,_ => .nil
 | _,_,_ + 1,.nil => .nil
 | _,_,n + 1,.cons h a r => .cons h a (VlsV.take n r)
theorem VlsV.drop {H:Hp}:∀ {vs:List (List Nat × PyData)}{xs:List V} (n:Nat),VlsV H vs xs->VlsV H (vs.drop n) (xs.drop n)
 | _,_,0,h => h
 | _,_,_ + 1,.nil => .nil
 | _,_,n + 1,.cons _ _ r => VlsV.drop n r
def gapsM (cs:List Pc):List (List Nat):=(cs.filter fun c => !c.isStep).map Pc.name
def named (vs:List (List Nat × PyData)) (n:List Nat):List PyData:=(vs.filter fun p => decide (p.1=n)).map (·.2)
def fillS (c:Pc) (vs:List (List Nat × PyData)):Except (List Nat) (List (List Nat)):=match c with
 | .step s => .ok [s]
 | c => match named vs c.name with
  | [d] => if isValD c d=true then .ok (stpsD c d) else .error c.name
  | _ => .error c.name
def fillF:List Pc->List (List Nat × PyData)->Except (List Nat) (List (List Nat))
 | [],_ => .ok []
 | c :: cs,vs => match fillS c vs with
  | .error n => .error n
  | .ok a => match fillF cs vs with
   | .error n => .error n
   | .ok b => .ok (a ++ b)
def otherM (cs:List Pc) (vs:List (List Nat × PyData)):Option (List Nat):=(vs.find? fun p => !decide (p.1 ∈ gapsM cs)).map (·.1)
def fillM (cs:List Pc) (vs:List (List Nat × PyData)):Except (List Nat) (List (List Nat)):=match fillF cs vs with
 | .error n => .error n
 | .ok ss => match otherM cs vs with
  | some n => .error n
  | none => .ok ss
theorem lqB {H:Hp}{vs:List (List Nat × PyData)}{xs:List V} (h:VlsV H vs xs) (n:List Nat) (g:Nat->V) (hg:∀ i m d p v,vs[i]?=some (m,d)->xs[i]?=some (.ref p)->H p=some (.tup [tV m,v])->g i=v) :
  IsAll H (named vs n) (((List.range xs.length).filter fun i => decide ((vs[i]?.map (·.1))=some n)).map g):=by
 induction h generalizing g with
 | nil => exact .nil
 | cons hp ha r ih =>
  rename_i m d p v vs xs
  have e:List.range (V.ref p :: xs).length=0 :: (List.range xs.length).map Nat.succ:=by rw [List.length_cons,List.range_succ_eq_map]
  have ih':=ih (fun i => g (i + 1)) (fun i m d p v h1 h2 h3 => hg (i + 1) m d p v (by simpa using h1) (by simpa using h2) h3)
  have e2:((((List.range xs.length).map Nat.succ).filter fun i => decide ((((m,d) :: vs)[i]?.map (·.1))=some n)).map g)=(((List.range xs.length).filter fun i => decide ((vs[i]?.map (·.1))=some n)).map fun i => g (i + 1)):=by
   rw [List.filter_map,List.map_map]
   rfl
  rw [e,List.filter_cons]
  have g0:g 0=v:=hg 0 m d p v rfl rfl hp
  by_cases hm:m=n
  ·have e3:named ((m,d) :: vs) n=d :: named vs n:=by unfold named; rw [List.filter_cons,if_pos (by simp [hm])]; rfl
   rw [e3,if_pos (by simp [hm]),List.map_cons,e2,g0]
   exact .cons ha ih'
  ·have e3:named ((m,d) :: vs) n=named vs n:=by unfold named; rw [List.filter_cons,if_neg (by simp [hm])]
   rw [e3,if_neg (by simp [hm]),e2]
   exact ih'
theorem lqm {H:Hp}:∀ {ds:List PyData}{xs:List V},IsAll H ds xs->ds.all canD=true->xs=(ds.map txD).map tV
 | _,_,.nil,_ => rfl
 | d :: ds,_,.cons h r,hc => by
  rw [List.all_cons,Bool.and_eq_true] at hc
  have:=lqm r hc.2
  cases d with
  | str s => cases h; rw [this]; rfl
  | _ => cases hc.1
theorem oqZ {c:Pc}{vs:List (List Nat × PyData)}{ss:List (List Nat)} (h:fillS c vs=.ok ss) (hs:∀ p ∈ vs,smallD p.2=true):ss.length ≤ 100000:=by
 have gen:∀ c:Pc,(match named vs c.name with | [d] => if isValD c d=true then (.ok (stpsD c d):Except (List Nat) (List (List Nat))) else .error c.name | _ => .error c.name)=.ok ss->(∀ d,d ∈ named vs c.name->isValD c d=true->(stpsD c d).length ≤ 100000)->ss.length ≤ 100000:=fun c h hd => by
  cases hn:named vs c.name with
  | nil => rw [hn] at h; cases h
  | cons d r =>
   cases r with
   | nil =>
    rw [hn] at h hd
    by_cases hv:isValD c d=true
    ·have h:(if isValD c d=true then (.ok (stpsD c d):Except (List Nat) (List (List Nat))) else .error c.name)=.ok ss:=h
     rw [if_pos hv] at h
     cases h
     exact hd d (List.mem_singleton.mpr rfl) hv
    ·have h:(if isValD c d=true then (.ok (stpsD c d):Except (List Nat) (List (List Nat))) else .error c.name)=.ok ss:=h
     rw [if_neg hv] at h
     cases h
   | cons _ _ => rw [hn] at h; cases h
 have hsd:∀ n d,d ∈ named vs n->smallD d=true:=fun n d hd => by
  obtain ⟨p,hp,rfl⟩:=List.mem_map.mp hd
  exact hs p (List.mem_filter.mp hp).1
 cases c with
 | step s => cases h; exact (show 1 ≤ 100000 by decide)
 | part a b e => exact gen _ h fun d _ _ => (by show 1 ≤ 100000; decide)
 | word n => exact gen _ h fun d _ _ => (by show 1 ≤ 100000; decide)
 | gap n => exact gen _ h fun d _ _ => (by show 1 ≤ 100000; decide)
 | num n =>
  refine gen _ h fun d _ hv => ?_
  cases d with
  | int i => exact (by show 1 ≤ 100000; decide)
  | _ => exact Nat.zero_le _
 | rest n =>
  refine gen _ h fun d hd _ => ?_
  cases d with
  | list ds =>
   have:=hsd _ _ hd
   simp only [smallD,Bool.and_eq_true,decide_eq_true_eq] at this
   show (ds.map txD).length ≤ 100000
   rw [List.length_map]
   exact this.1
  | _ => exact Nat.zero_le _
theorem iq0 {vs:List (List Nat × PyData)}:∀ {cs:List Pc}{i:Nat}{c:Pc}{a b:List (List Nat)},cs[i]?=some c->fillF (cs.take i) vs=.ok a->fillS c vs=.ok b->fillF (cs.take (i + 1)) vs=.ok (a ++ b)
 | [],_,_,_,_,h,_,_ => by cases h
 | d :: cs,0,c,a,b,h,h1,h2 => by
  cases h; cases h1
  show fillF [d] vs=_
  unfold fillF fillF
  rw [h2]
  simp
 | d :: cs,i + 1,c,a,b,h,h1,h2 => by
  have h:cs[i]?=some c:=by simpa using h
  have h1:fillF (d :: cs.take i) vs=.ok a:=h1
  show fillF (d :: cs.take (i + 1)) vs=_
  unfold fillF at h1 ⊢
  cases hd:fillS d vs with
  | error n => rw [hd] at h1; cases h1
  | ok x =>
   rw [hd] at h1
   cases hf:fillF (cs.take i) vs with
   | error n => rw [hf] at h1; cases h1
   | ok y =>
    rw [hf] at h1
    cases h1
    have:=iq0 h hf h2
    rw [this]
    simp
theorem kq8 {vs:List (List Nat × PyData)}{n:List Nat}:∀ {cs:List Pc}{i:Nat}{c:Pc}{a:List (List Nat)},cs[i]?=some c->fillF (cs.take i) vs=.ok a->fillS c vs=.error n->fillF cs vs=.error n
 | [],_,_,_,h,_,_ => by cases h
 | d :: cs,0,c,a,h,h1,h2 => by
  cases h
  unfold fillF
  rw [h2]
 | d :: cs,i + 1,c,a,h,h1,h2 => by
  have h:cs[i]?=some c:=by simpa using h
  have h1:fillF (d :: cs.take i) vs=.ok a:=h1
  unfold fillF at h1 ⊢
  cases hd:fillS d vs with
  | error n => rw [hd] at h1; cases h1
  | ok x =>
   rw [hd] at h1
   cases hf:fillF (cs.take i) vs with
   | error n => rw [hf] at h1; cases h1
   | ok y =>
    rw [hf] at h1
    cases h1
    have:=kq8 h hf h2
    rw [this]
def prAt (H:Hp) (ys:List V) (i:Nat):V × V:=match ys[i]? with
 | some (.ref p) => match H p with
  | some (.tup [a,b]) => (a,b)
  | _ => (.non,.non)
 | _ => (.non,.non)
theorem lq3 {H:Hp}{ys:List V}{i:Nat}{p:Addr}{a b:V} (h:ys[i]?=some (.ref p)) (hp:H p=some (.tup [a,b])):prAt H ys i=(a,b):=by
 unfold prAt
 rw [h]
 dsimp only
 rw [hp]
theorem hqU {c:Pc}{vs:List (List Nat × PyData)} (h:c.isStep=false):fillS c vs=(match named vs c.name with | [d] => if isValD c d=true then .ok (stpsD c d) else .error c.name | _ => .error c.name):=by
 cases c with
 | step s => cases h
 | _ => rfl
end Wm
namespace L2
open PySem
theorem oqq {X:Cx}{K:PySem.W.Frag} (h:X.K=K):OpR X (compareOp .NotIn) (rIn K true):=by subst h; exact lqb
end L2
namespace Wm
open PySem L2
theorem kqf {cs:List Pc}{n:List Nat}{d:PyData}:∀ {ws:List (List Nat × PyData)}{i:Nat},ws[i]?=some (n,d)->(∀ w ∈ ws.take i,w.1 ∈ gapsM cs)->n ∉ gapsM cs->otherM cs ws=some n
 | [],_,h,_,_ => by cases h
 | w :: ws,0,h,_,hn => by
  cases h
  unfold otherM
  rw [List.find?_cons_of_pos (by simp [hn])]
  rfl
 | w :: ws,i + 1,h,hp,hn => by
  have hw:=hp w (by simp)
  have ih:=kqf (ws:=ws) (i:=i) (by simpa using h) (fun x hx => hp x (by simp [hx])) hn
  unfold otherM at ih ⊢
  rw [List.find?_cons_of_neg (by simp [hw])]
  exact ih
theorem jqk {cs:List Pc}{ws:List (List Nat × PyData)} (h:∀ w ∈ ws,w.1 ∈ gapsM cs):otherM cs ws=none:=by
 unfold otherM
 rw [List.find?_eq_none.mpr (fun w hw => by simp [h w hw])]
 rfl
theorem jq0 (cs:List Pc):(gapsM cs).length ≤ cs.length:=by
 unfold gapsM
 rw [List.length_map]
 exact List.length_filter_le _ _
theorem sqi:∀ (k:Nat) (ds:List Nat),ds.length=k->ds ≠ []->(∀ c ∈ ds,48 ≤ c∧c ≤ 57)->(ds=[48] ∨ ds.head? ≠ some 48)->(Nat.toDigits 10 (valD ds)).map Char.toNat=ds:=by
 intro k
 induction k with
 | zero => intro ds hl hn; exact absurd (List.length_eq_zero_iff.mp hl) hn
 | succ k ih =>
  intro ds hl hn hd h0
  have key:∀ n,n < 10->([Nat.digitChar n].map Char.toNat)=[48 + n]:=by decide +kernel
  obtain ⟨as,c,rfl⟩:∃ as c,ds=as ++ [c]:=⟨ds.dropLast,ds.getLast hn,(List.dropLast_concat_getLast hn).symm⟩
  have hc:=hd c (List.mem_append_right _ (List.mem_singleton.mpr rfl))
  rw [eqH]
  cases has:as with
  | nil =>
   have ev:valD ([]:List Nat)=0:=rfl
   rw [ev,Nat.zero_mul,Nat.zero_add,Nat.toDigits_of_lt_base (by omega),key _ (by omega)]
   show [48 + (c - 48)]=[c]
   congr 1; omega
  | cons a as' =>
   rw [<- has]
   have hne:as ≠ []:=by rw [has]; simp
   have ha48:a ≠ 48:=fun z => by
    rcases h0 with h0 | h0
    ·have:=congrArg List.length h0
     rw [List.length_append,has] at this
     simp at this
    ·refine h0 ?_
     rw [has,z]; rfl
   have ha:=hd a (by rw [has]; simp)
   have hp:=pqI has (by omega)
   have hi:=ih as (by rw [List.length_append,List.length_singleton] at hl; omega) hne (fun x hx => hd x (List.mem_append_left _ hx)) (.inr (by rw [has]; intro z; exact ha48 (Option.some.inj z)))
   rw [Nat.toDigits_of_base_le (by decide) (by omega),List.map_append]
   rw [show (valD as * 10 + (c - 48)) / 10=valD as by omega,show (valD as * 10 + (c - 48)) % 10=c - 48 by omega,hi,key _ (by omega)]
   congr 1
   show [48 + (c - 48)]=[c]
   congr 1; omega
theorem mq8:∀ (k:Nat) (ds:List Nat),ds.length=k->(∀ c ∈ ds,48 ≤ c∧c ≤ 57)->valD ds < 10 ^ k:=by
 intro k
 induction k with
 | zero => intro ds hl _; rw [List.length_eq_zero_iff.mp hl]; decide
 | succ k ih =>
  intro ds hl hd
  have hn:ds ≠ []:=fun z => by rw [z] at hl; cases hl
  obtain ⟨as,c,rfl⟩:∃ as c,ds=as ++ [c]:=⟨ds.dropLast,ds.getLast hn,(List.dropLast_concat_getLast hn).symm⟩
  have hc:=hd c (List.mem_append_right _ (List.mem_singleton.mpr rfl))
  have:=ih as (by rw [List.length_append,List.length_singleton] at hl; omega) (fun x hx => hd x (List.mem_append_left _ hx))
  rw [eqH,Nat.pow_succ]
  omega
theorem kqz {l:List Nat} (h:l.all isFig=true) (h0:1 ≤ l.length) (h1:l.length ≤ 60):intOf l=(valD l:Int):=by
 have e:=intText_digits (x:=⟨l.toArray⟩) (fun c hc => by
  have:=List.all_eq_true.mp h c (by simpa using hc)
  simpa [isFig] using this) (by intro z; simp at z; rw [z] at h0; simp at h0) (by show l.length ≤ 4300; omega)
 unfold intOf
 rw [e]
 rfl
theorem rq3 {l:List Nat} (h:l.all isFig=true):∀ c ∈ l,48 ≤ c∧c ≤ 57:=fun c hc => by
 have:=List.all_eq_true.mp h c hc
 simpa [isFig] using this
theorem mqn {s:List Nat} (h:numB s=true):dg (intOf s)=s∧0 ≤ intOf s∧intOf s < 10 ^ 60:=by
 unfold numB at h
 simp only [Bool.and_eq_true,decide_eq_true_eq,Bool.or_eq_true,Bool.not_eq_true',decide_eq_false_iff_not] at h
 obtain ⟨⟨⟨h1,h2⟩,h3⟩,h4⟩:=h
 have hf:=rq3 h3
 rw [kqz h3 h1 h2]
 have hn:s ≠ []:=List.length_pos_iff.mp h1
 refine ⟨?_,by omega,?_⟩
 ·unfold dg
  rw [PySem.W.KIN.signs_num]
  exact sqi _ s rfl hn hf h4
 ·have:=mq8 _ s rfl hf
  have h10:10 ^ s.length ≤ 10 ^ 60:=Nat.pow_le_pow_right (by decide) h2
  have:valD s < 10 ^ 60:=Nat.lt_of_lt_of_le this h10
  exact_mod_cast this
theorem kqJ {h t s:List Nat} (hp:partB h t s=true):h ++ amid h t s ++ t=s∧amid h t s ≠ []:=by
 unfold partB at hp
 simp only [Bool.and_eq_true,decide_eq_true_eq] at hp
 obtain ⟨h1,h2,h3⟩:=hp
 unfold amid
 constructor
 ·have e1:h ++ s.drop h.length=s:=by
   conv => rhs; rw [<- List.take_append_drop h.length s]
   rw [h1]
  have e2:(s.drop h.length).drop (s.length - t.length - h.length)=t:=by
   rw [List.drop_drop,show h.length + (s.length - t.length - h.length)=s.length - t.length by omega]
   exact h2
  rw [List.append_assoc]
  have e3:(s.drop h.length).take (s.length - t.length - h.length) ++ t=s.drop h.length:=by
   conv => rhs; rw [<- List.take_append_drop (s.length - t.length - h.length) (s.drop h.length)]
   rw [e2]
  rw [e3,e1]
 ·intro z
  have:=congrArg List.length z
  rw [List.length_take,List.length_drop] at this
  simp at this
  omega
def SgT (s:List Nat):Prop:=s ≠ []∧∀ c ∈ s,isSg c=true
theorem oqx {s:List Nat} (h:SgT s):ftx (st s)=true:=by
 simp only [ftx,oqO,Bool.and_eq_true,decide_eq_true_eq]
 exact ⟨List.all_eq_true.mpr h.2,List.length_pos_iff.mpr h.1⟩
theorem pqQ {c:Pc}{s:List Nat}{r:List (List Nat)} (hs:c.isStep=false) (hr:c.isRest=false) (hf:fitsM c s=true) (hg:SgT s):isValD c (vlD (bvM c (s :: r)))=true∧stpsD c (vlD (bvM c (s :: r)))=[s]:=by
 unfold fitsM at hf
 rw [Bool.and_eq_true,Bool.not_eq_true'] at hf
 obtain ⟨hd,hf⟩:=hf
 cases c with
 | step w => cases hs
 | rest n => cases hr
 | part h n t =>
  obtain ⟨e,ne⟩:=kqJ hf
  have ea:vlD (bvM (.part h n t) (s :: r))=st (amid h t s):=rfl
  rw [ea]
  refine ⟨?_,?_⟩
  ·show (ftx (st (amid h t s)) && !isDot (h ++ amid h t s ++ t))=true
   rw [e,hd,oqx ⟨ne,fun c hc => hg.2 c (by rw [<- e]; simp [hc])⟩]
   rfl
  ·show [h ++ amid h t s ++ t]=[s]
   rw [e]
 | num n =>
  obtain ⟨h1,h2,h3⟩:=mqn hf
  have ea:vlD (bvM (.num n) (s :: r))=.int (intOf s):=rfl
  rw [ea]
  exact ⟨decide_eq_true ⟨h2,h3⟩,by show [dg (intOf s)]=[s]; rw [h1]⟩
 | word n =>
  have ea:vlD (bvM (.word n) (s :: r))=st s:=by show st (amid [] [] s)=st s; rw [cq9]
  rw [ea]
  exact ⟨hf,by show [[] ++ s ++ []]=[s]; simp⟩
 | gap n =>
  have ea:vlD (bvM (.gap n) (s :: r))=st s:=by show st (amid [] [] s)=st s; rw [cq9]
  rw [ea]
  refine ⟨?_,by show [[] ++ s ++ []]=[s]; simp⟩
  show (ftx (st s) && !isDot s)=true
  rw [oqx hg,hd]; rfl
theorem sqJ {s:List Nat} (h:SgT s) (hd:isDot s=false):canD (st s)=true:=by
 show (s.all isSg && decide (0 < (⟨s.toArray⟩:Str).length) && !isDot s)=true
 rw [List.all_eq_true.mpr h.2,decide_eq_true (show 0 < (⟨s.toArray⟩:Str).length by rw [bqr]; exact List.length_pos_iff.mpr h.1),hd]
 rfl
theorem pqm {n:List Nat}{ss:List (List Nat)} (hn:ss ≠ []) (h:∀ s ∈ ss,SgT s∧isDot s=false):isValD (.rest n) (vlD (bvM (.rest n) ss))=true∧stpsD (.rest n) (vlD (bvM (.rest n) ss))=ss:=by
 have ea:vlD (bvM (.rest n) ss)=.list (ss.map st):=rfl
 rw [ea]
 refine ⟨?_,?_⟩
 ·show (decide (0 < (ss.map st).length) && (ss.map st).all canD)=true
  rw [decide_eq_true (by rw [List.length_map]; exact List.length_pos_iff.mpr hn),Bool.true_and]
  refine List.all_eq_true.mpr fun d hd => ?_
  obtain ⟨s,hs,rfl⟩:=List.mem_map.mp hd
  exact sqJ (h s hs).1 (h s hs).2
 ·show (ss.map st).map txD=ss
  rw [List.map_map]
  conv => rhs; rw [<- List.map_id ss]
  rfl
theorem jqo {ws:List (List Nat × PyData)}{n:List Nat} (h:n ∉ ws.map (·.1)):named ws n=[]:=by
 unfold named
 rw [List.filter_eq_nil_iff.mpr fun p hp => by
  simp only [decide_eq_true_eq]
  exact fun z => h (by rw [<- z]; exact List.mem_map_of_mem hp)]
 rfl
theorem gqm:∀ {ws:List (List Nat × PyData)}{n:List Nat}{d:PyData},(ws.map (·.1)).Nodup->(n,d) ∈ ws->named ws n=[d]
 | [],_,_,_,h => by cases h
 | w :: ws,n,d,hn,h => by
  rw [List.map_cons,List.nodup_cons] at hn
  rcases List.mem_cons.mp h with rfl | h
  ·have:named ((n,d) :: ws) n=d :: named ws n:=by unfold named; rw [List.filter_cons,if_pos (by simp)]; rfl
   rw [this,jqo hn.1]
  ·have hne:w.1 ≠ n:=fun z => hn.1 (by rw [z]; exact List.mem_map_of_mem (f:=(·.1)) h)
   have:named (w :: ws) n=named ws n:=by unfold named; rw [List.filter_cons,if_neg (by simp [hne])]
   rw [this]
   exact gqm hn.2 h
theorem jqa {ns:List (List Nat)} (hn:ns.Nodup):∀ {cs:List Pc} (k:Nat),(∀ (i:Nat) (c:Pc),cs[i]?=some c->c.isStep=false->ns[k + i]?=some c.name)->(gapsM cs).Nodup∧∀ n ∈ gapsM cs,∃ j,k ≤ j∧ns[j]?=some n
 | [],_,_ => ⟨List.nodup_nil,fun n h => by cases h⟩
 | c :: cs,k,h => by
  obtain ⟨i1,i2⟩:=jqa hn (cs:=cs) (k + 1) fun i d hd hs => by
   have:=h (i + 1) d (by simpa using hd) hs
   rw [<- this]; congr 1; omega
  have e:gapsM (c :: cs)=(if c.isStep then [] else [c.name]) ++ gapsM cs:=by
   unfold gapsM
   rw [List.filter_cons]
   cases c.isStep <;> rfl
  rw [e]
  cases hs:c.isStep with
  | true => exact ⟨i1,fun n hn' => by obtain ⟨j,h1,h2⟩:=i2 n hn'; exact ⟨j,by omega,h2⟩⟩
  | false =>
   have h0:ns[k]?=some c.name:=h 0 c rfl hs
   refine ⟨?_,fun n hn' => ?_⟩
   ·show (c.name :: gapsM cs).Nodup
    rw [List.nodup_cons]
    refine ⟨fun z => ?_,i1⟩
    obtain ⟨j,h1,h2⟩:=i2 _ z
    obtain ⟨a1,a2⟩:=List.getElem?_eq_some_iff.mp h0
    obtain ⟨b1,b2⟩:=List.getElem?_eq_some_iff.mp h2
    rw [List.nodup_iff_pairwise_ne,List.pairwise_iff_getElem] at hn
    exact hn k j a1 b1 (by omega) (a2.trans b2.symm)
   ·rcases List.mem_cons.mp (show n ∈ c.name :: gapsM cs from hn') with rfl | z
    ·exact ⟨k,Nat.le_refl _,h0⟩
    ·obtain ⟨j,h1,h2⟩:=i2 n z; exact ⟨j,by omega,h2⟩
theorem jqg {ws:List (List Nat × PyData)}:∀ {cs:List Pc}{ss:List (List Nat)},(∀ (i:Nat) (c:Pc),cs[i]?=some c->∃ s,ss[i]?=some s∧fitsM c s=true)->(∀ (i:Nat) (c:Pc),cs[i]?=some c->c.isRest=true->i + 1=cs.length)->((∀ c ∈ cs,c.isRest=false)->ss.length=cs.length)->(∀ s ∈ ss,SgT s∧isDot s=false)->(∀ n x,(n,x) ∈ boundM cs ss->named ws n=[vlD x])->fillF cs ws=.ok ss
 | [],ss,_,_,hl,_,_ => by
  have:=hl (fun c hc => by cases hc)
  rw [List.length_nil] at this
  rw [List.length_eq_zero_iff.mp this]
  rfl
 | c :: cs,ss,hf,hr,hl,hg,hb => by
  obtain ⟨s,h0,hfs⟩:=hf 0 c rfl
  cases ss with
  | nil => cases h0
  | cons s' ss =>
   cases h0
   have hbe:boundM (c :: cs) (s :: ss)=(if c.isStep then [] else [(c.name,bvM c (s :: ss))]) ++ boundM cs ss:=rfl
   by_cases hcr:c.isRest=true
   ·have hn:cs=[]:=List.length_eq_zero_iff.mp (by have:=hr 0 c rfl hcr; simp only [List.length_cons] at this; omega)
    subst hn
    cases c with
    | rest n =>
     have hb1:=hb n (bvM (.rest n) (s :: ss)) (by rw [hbe]; exact List.mem_append_left _ (List.mem_singleton.mpr rfl))
     obtain ⟨r1,r2⟩:=pqm (n:=n) (ss:=s :: ss) (by simp) hg
     have e:fillS (.rest n) ws=.ok (s :: ss):=by
      show (match named ws n with | [d] => if isValD (.rest n) d=true then (.ok (stpsD (.rest n) d):Except (List Nat) (List (List Nat))) else .error n | _ => .error n)=_
      rw [hb1]
      show (if isValD (.rest n) _=true then _ else _)=_
      rw [if_pos r1,r2]
     unfold fillF fillF
     rw [e]
     simp
    | _ => cases hcr
   ·have ih:=jqg (ws:=ws) (cs:=cs) (ss:=ss) (fun i d hd => by
     obtain ⟨z,h1,h2⟩:=hf (i + 1) d (by simpa using hd)
     exact ⟨z,by simpa using h1,h2⟩) (fun i d hd hdr => by
     have:=hr (i + 1) d (by simpa using hd) hdr
     simp only [List.length_cons] at this; omega) (fun h => by
     have:=hl (fun d hd => by
      rcases List.mem_cons.mp hd with rfl | hd
      ·simpa using hcr
      ·exact h d hd)
     simp only [List.length_cons] at this; omega) (fun z hz => hg z (List.mem_cons_of_mem _ hz)) (fun n x hx => hb n x (by rw [hbe]; exact List.mem_append_right _ hx))
    have e:fillS c ws=.ok [s]:=by
     cases hst:c.isStep with
     | true =>
      cases c with
      | step w =>
       unfold fitsM at hfs
       rw [Bool.and_eq_true] at hfs
       have:s=w:=of_decide_eq_true hfs.2
       rw [this]
       rfl
      | _ => cases hst
     | false =>
      rw [hqU hst]
      have hb1:=hb c.name (bvM c (s :: ss)) (by rw [hbe,hst]; exact List.mem_append_left _ (List.mem_singleton.mpr rfl))
      rw [hb1]
      obtain ⟨r1,r2⟩:=pqQ (r:=ss) hst (by simpa using hcr) hfs (hg s (List.mem_cons_self ..)).1
      show (if isValD c _=true then _ else _)=_
      rw [if_pos r1,r2]
    unfold fillF
    rw [e,ih]
    rfl
theorem kqT {cs:List Pc}{cl r e:Bool}{ss:List (List Nat)} (h:fitsP cs cl r ss e=true):r=true∧e=cl∧((∀ c ∈ cs,c.isRest=false)->ss.length=cs.length)∧cs.length ≤ ss.length∧∀ s ∈ ss,isDot s=false:=by
 unfold fitsP at h
 cases hs:spreadM cs ss.length with
 | none => rw [hs] at h; cases h
 | some ds =>
  rw [hs] at h
  have h:(r && decide (e=cl) && (List.zipWith fitsM ds ss).all id)=true:=h
  rw [Bool.and_eq_true,Bool.and_eq_true,decide_eq_true_eq] at h
  have hdl:=jqm hs
  refine ⟨h.1.1,h.1.2,fun hn => ?_,(jqe hs).1,fun s hsm => ?_⟩
  ·unfold spreadM at hs
   by_cases hr:hasRest cs=true∧cs.length ≤ ss.length
   ·exfalso
    have hh:=hr.1
    unfold hasRest at hh
    cases hg:cs.getLast? with
    | none => rw [hg] at hh; cases hh
    | some c =>
     rw [hg] at hh
     have hc:=hn c (List.mem_of_getLast? hg)
     have hh:c.isRest=true:=hh
     rw [hc] at hh
     cases hh
   ·rw [if_neg hr] at hs
    by_cases hl:ss.length=cs.length
    ·exact hl
    ·rw [if_neg hl] at hs; cases hs
  ·obtain ⟨i,hi⟩:=List.mem_iff_getElem?.mp hsm
   have hil:=(List.getElem?_eq_some_iff.mp hi).1
   have hd:ds[i]?=some ds[i]:=List.getElem?_eq_getElem (by omega)
   have hz:fitsM ds[i] s ∈ List.zipWith fitsM ds ss:=by
    rw [List.mem_iff_getElem?]
    exact ⟨i,by rw [List.getElem?_zipWith,hd,hi]⟩
   have:=List.all_eq_true.mp h.2 _ hz
   have this:fitsM ds[i] s=true:=this
   unfold fitsM at this
   rw [Bool.and_eq_true,Bool.not_eq_true'] at this
   exact this.1
theorem tqE {c:Nat} (h:48 ≤ c∧c ≤ 57):isSg c=true:=by
 simp only [isSg,Bool.and_eq_true,decide_eq_true_eq,Bool.not_eq_true',decide_eq_false_iff_not]
 omega
theorem rq5 {k:Nat}:∀ {n:Nat},0 < k->n < 10 ^ k->(Nat.toDigits 10 n).length ≤ k:=by
 induction k with
 | zero => intro n h; cases h
 | succ k ih =>
  intro n _ h
  by_cases hn:n < 10
  ·rw [Nat.toDigits_of_lt_base hn]; simp
  ·rw [Nat.toDigits_of_base_le (by decide) (by omega),List.length_append,List.length_singleton]
   cases k with
   | zero => omega
   | succ k =>
    have:=ih (n:=n / 10) (by omega) (by rw [Nat.pow_succ] at h; omega)
    omega
theorem pqs {n:Nat} (h:n < 10 ^ 60):(Nat.toDigits 10 n).length ≤ 60:=rq5 (by decide) h
theorem mqa (d:Nat):∀ (n:Nat) (a:Array Nat),((List.replicate n #[d]).foldl (· ++ ·) a).toList=a.toList ++ List.replicate n d
 | 0,a => by simp
 | n + 1,a => by
  rw [List.replicate_succ,List.foldl_cons,mqa d n,List.replicate_succ]
  simp
theorem qqg (d m:Nat):Txt.mul (⟨#[d]⟩:Str) (m:Int)=⟨(List.replicate m d).toArray⟩:=by
 unfold Txt.mul
 by_cases h:(m:Int) < 1
 ·rw [if_pos h]
  have:m=0:=by omega
  subst this
  rfl
 ·rw [if_neg h]
  by_cases h1:m=1
  ·subst h1
   rw [if_pos (by rfl)]
   rfl
  ·rw [if_neg (by
    have e:(⟨#[d]⟩:Str).length=1:=rfl
    rw [e,Bool.or_eq_true]
    rintro (z | z)
    ·exact h1 (by have:=eq_of_beq z; omega)
    ·cases z)]
   have e:=mqa d m #[]
   rw [Int.toNat_natCast]
   congr 1
   rw [<- Array.toList_inj,e]
   simp
theorem pql (d m:Nat) (h:m ≤ 60):MulOk (⟨#[d]⟩:Str) (m:Int):=by
 refine ⟨?_,fun h1 _ => ?_,fun _ _ => notTooLong ?_⟩
 ·rw [decide_eq_false (by omega),decide_eq_false (by omega)]; rfl
 ·show ¬ (1:Int) > _
  have:(1:Int) ≤ (2 ^ 63 - 1) / (m:Int):=by
   rw [Int.le_ediv_iff_mul_le (by omega)]
   omega
  omega
 ·show 1 * _ ≤ _
  have:((m:Int)).toNat=m:=by omega
  rw [this]
  exact Nat.le_trans (show 1 * m ≤ 100 by omega) (by decide)
theorem fqM:∀ {ds:List PyData},(∀ d ∈ ds,PyData.eqv d d=true)->PyData.eqvAll ds ds=true
 | [],_ => by simp [PyData.eqvAll]
 | d :: ds,h => by
  have h1:=h d (List.mem_cons_self ..)
  have h2:=fqM (ds:=ds) fun x hx => h x (List.mem_cons_of_mem _ hx)
  simp [PyData.eqvAll,h1,h2]
theorem hqF {ds:List PyData} (h:∀ d ∈ ds,PyData.eqv d d=true):PyData.eqv (.list ds) (.list ds)=true:=by
 simp [PyData.eqv,fqM h]
theorem dqA {ds:List PyData} (h:∀ d ∈ ds,PyData.eqv d d=true):PyData.eqv (.tuple ds) (.tuple ds)=true:=by
 simp [PyData.eqv,fqM h]
theorem eq1 (l:List Nat):PyData.eqv (st l) (st l)=true:=by simp [PyData.eqv]
theorem sqS (i:Int):PyData.eqv (.int i) (.int i)=true:=by simp [PyData.eqv]
theorem jqy (b:Bool):PyData.eqv (.bool b) (.bool b)=true:=by simp [PyData.eqv]
theorem uqj (x:Vl):PyData.eqv (vlD x) (vlD x)=true:=by
 cases x with
 | txt l => exact eq1 l
 | int i => exact sqS i
 | lst ls => exact hqF fun d hd => by obtain ⟨l,_,rfl⟩:=List.mem_map.mp hd; exact eq1 l
def VlOk:Vl->Prop
 | .txt l => (∀ c ∈ l,isSg c=true)∧l.length ≤ 20000
 | .int _ => True
 | .lst ls => (∀ l ∈ ls,(∀ c ∈ l,isSg c=true)∧l.length ≤ 20000)∧ls.length ≤ 20000
theorem VlOk.lay {x:Vl} (h:VlOk x):LayAt 1 (vlD x):=by
 cases x with
 | txt l => exact (LayAt.st h.1).le (by decide)
 | int i => exact (LayAt.iD (o:=some i)).le (by decide)
 | lst ls => exact layL (n:=0) fun d hd => by obtain ⟨l,hl,rfl⟩:=List.mem_map.mp hd; exact LayAt.st (h.1 l hl).1
theorem VlOk.small {x:Vl} (h:VlOk x):smallD (vlD x)=true:=by
 cases x with
 | txt l => simp only [vlD,smallD,oqO,decide_eq_true_eq]; have:=h.2; omega
 | int i => rfl
 | lst ls => exact lqg (by rw [List.length_map]; have:=h.2; omega) (hq6 fun d hd => by
   obtain ⟨l,hl,rfl⟩:=List.mem_map.mp hd
   simp only [smallD,oqO,decide_eq_true_eq]; have:=(h.1 l hl).2; omega)
theorem sqN {h t s:List Nat}:∀ c ∈ amid h t s,c ∈ s:=fun c hc => List.mem_of_mem_drop (List.mem_of_mem_take hc)
theorem qqL {h t s:List Nat}:(amid h t s).length ≤ s.length:=by unfold amid; rw [List.length_take,List.length_drop]; omega
theorem BndV.vls {H:Hp}{l:Addr}:∀ {bs:List (List Nat × Vl)}{ys:List V},BndV H l bs ys->VlsV H (bs.map fun p => (p.1,vlD p.2)) ys
 | _,_,.nil => .nil
 | _,_,.cons a b _ r => .cons a b.is (BndV.vls r)
theorem VlsV.isAll {H:Hp}:∀ {vs:List (List Nat × PyData)}{xs:List V},VlsV H vs xs->IsAll H (vs.map fun p => .tuple [st p.1,p.2]) xs
 | _,_,.nil => .nil
 | _,_,.cons h a r => .cons (.tup h (.cons (.str _) (.cons a .nil))) (VlsV.isAll r)
def bndD (bs:List (List Nat × Vl)):PyData:=.list ((bs.map fun p => (p.1,vlD p.2)).map fun p => .tuple [st p.1,p.2])
theorem jqL {bs:List (List Nat × Vl)} (hn:∀ p ∈ bs,∀ c ∈ p.1,isSg c=true) (hv:∀ p ∈ bs,VlOk p.2):LayAt 3 (bndD bs):=layL fun d hd => by
 obtain ⟨q,hq,rfl⟩:=List.mem_map.mp hd
 obtain ⟨p,hp,rfl⟩:=List.mem_map.mp hq
 refine LayAt.tup (n:=1) fun e he => ?_
 simp only [List.mem_cons,List.not_mem_nil,or_false] at he
 rcases he with rfl | rfl
 ·exact (LayAt.st (hn p hp)).le (by decide)
 ·exact (hv p hp).lay
theorem mqb (bs:List (List Nat × Vl)):PyData.eqv (bndD bs) (bndD bs)=true:=hqF fun d hd => by
 obtain ⟨q,hq,rfl⟩:=List.mem_map.mp hd
 obtain ⟨p,hp,rfl⟩:=List.mem_map.mp hq
 refine dqA fun e he => ?_
 simp only [List.mem_cons,List.not_mem_nil,or_false] at he
 rcases he with rfl | rfl
 ·exact eq1 _
 ·exact uqj _
def wyD (r:Bool) (ss:List (List Nat)) (e:Bool):PyData:=.tuple [.bool r,.tuple (ss.map st),.bool e]
theorem oqK {r e:Bool}{ss:List (List Nat)} (h:∀ s ∈ ss,∀ c ∈ s,isSg c=true):LayAt 2 (wyD r ss e):=LayAt.tup (n:=1) fun d hd => by
 simp only [List.mem_cons,List.not_mem_nil,or_false] at hd
 rcases hd with rfl | rfl | rfl
 ·exact LayAt.bool.le (by decide)
 ·exact LayAt.tup (n:=0) fun d hd => by obtain ⟨s,hs,rfl⟩:=List.mem_map.mp hd; exact LayAt.st (h s hs)
 ·exact LayAt.bool.le (by decide)
theorem oqm (r:Bool) (ss:List (List Nat)) (e:Bool):PyData.eqv (wyD r ss e) (wyD r ss e)=true:=dqA fun d hd => by
 simp only [List.mem_cons,List.not_mem_nil,or_false] at hd
 rcases hd with rfl | rfl | rfl
 ·exact jqy _
 ·exact dqA fun d hd => by obtain ⟨s,hs,rfl⟩:=List.mem_map.mp hd; exact eq1 s
 ·exact jqy _
theorem mqB {H:Hp}{r e:Bool}{ss:List (List Nat)}{pw ps:Addr} (h1:H pw=some (.tup [.bl r,.ref ps,.bl e])) (h2:H ps=some (.tup (ss.map tV))):Is H (wyD r ss e) (.ref pw) :=
 .tup h1 (.cons (.bl _) (.cons (.tup h2 (kqb ss)) (.cons (.bl _) .nil)))
theorem mqO (xs:List V) (i:Nat):cutV xs none (some (i:Int))=xs.take i:=by
 unfold cutV
 rw [HT.sIx_none,HT.sIx_nat,List.drop_zero,Nat.sub_zero]
 by_cases h:i ≤ xs.length
 ·rw [Nat.min_eq_left h]
 ·rw [Nat.min_eq_right (by omega),List.take_length,List.take_of_length_le (by omega)]
def trS:List Nat:=[97,98,48,49]
def trialsM (h t:List Nat):List (List Nat):=trS.map fun c => h ++ [c] ++ t
def PcTx (c:Pc):Prop:=c.head.length ≤ 40000∧c.tail.length ≤ 40000∧∀ w,c=.step w->w.length ≤ 40000
def fitT (c:Pc):List (List Nat):=(match c with | .step w => [w] | c => trialsM c.head c.tail).filter (fitsM c)
def stepBey (c d:Pc):Option (List Nat):=(fitT c).find? fun s => !fitsM d s
theorem mql {c:Pc}{s:List Nat} (h:fitsM c s=true):isDot s=false:=by
 unfold fitsM at h
 rw [Bool.and_eq_true] at h
 simpa using h.1
theorem oqV {c:Pc}{s:List Nat} (h:c.isRest=true) (hs:isDot s=false):fitsM c s=true:=by
 cases c <;> first | cases h | skip
 show (!isDot s && true)=true
 rw [hs]; rfl
theorem nqu {ds ts:List Pc}{n:Nat} (h:spreadM ds n=some ts):ts.length=n∧∀ i,i < n->(i < ds.length∧ts[i]?=ds[i]?) ∨ (ds.length ≤ i∧hasRest ds=true∧∃ c,ts[i]?=some c∧c.isRest=true∧c ∈ ds):=by
 unfold spreadM at h
 by_cases hr:hasRest ds=true∧ds.length ≤ n
 ·rw [if_pos hr] at h
  cases h
  have hne:ds ≠ []:=fun e => by subst e; exact absurd hr.1 (by decide)
  obtain ⟨c,hc⟩:∃ c,ds.getLast?=some c:=⟨_,List.getLast?_eq_some_getLast hne⟩
  have hcr:c.isRest=true:=by
   have:=hr.1
   unfold hasRest at this
   rw [hc] at this
   exact this
  have hd:ds.drop (ds.length - 1)=[c]:=by
   rw [List.getLast?_eq_getElem?] at hc
   have hl:=List.length_pos_iff.mpr hne
   obtain ⟨h1,h2⟩:=List.getElem?_eq_some_iff.mp hc
   rw [List.drop_eq_getElem_cons h1,h2,List.drop_eq_nil_of_le (by omega)]
  rw [hd]
  have hfl:∀ k:Nat,(List.replicate k [c]).flatten=List.replicate k c:=fun k => by
   induction k with
   | zero => rfl
   | succ k ih => rw [List.replicate_succ,List.flatten_cons,ih]; rfl
  rw [hfl]
  refine ⟨by rw [List.length_append,List.length_replicate]; omega,fun i hi => ?_⟩
  by_cases hil:i < ds.length
  ·exact .inl ⟨hil,List.getElem?_append_left hil⟩
  ·refine .inr ⟨by omega,hr.1,c,?_,hcr,List.mem_of_getLast? hc⟩
   rw [List.getElem?_append_right (by omega),List.getElem?_replicate,if_pos (by omega)]
 ·rw [if_neg hr] at h
  by_cases e:n=ds.length
  ·rw [if_pos e] at h
   cases h
   exact ⟨e.symm,fun i hi => .inl ⟨by omega,rfl⟩⟩
  ·rw [if_neg e] at h
   cases h
theorem lqV {ds:List Pc}{n:Nat} (h:(hasRest ds=true∧ds.length ≤ n) ∨ n=ds.length):∃ ts,spreadM ds n=some ts:=by
 unfold spreadM
 by_cases hr:hasRest ds=true∧ds.length ≤ n
 ·rw [if_pos hr]; exact ⟨_,rfl⟩
 ·rw [if_neg hr]
  rcases h with h | h
  ·exact absurd h hr
  ·rw [if_pos h]; exact ⟨_,rfl⟩
theorem mqP:∀ {ms:List Pc}{ss:List (List Nat)},(List.zipWith fitsM ms ss).all id=true ↔ ∀ (i:Nat) (c:Pc) (s:List Nat),ms[i]?=some c->ss[i]?=some s->fitsM c s=true
 | [],ss => ⟨fun _ i c s h => by simp at h,fun _ => rfl⟩
 | c :: ms,[] => ⟨fun _ i c s _ h => by simp at h,fun _ => rfl⟩
 | c :: ms,s :: ss => by
  rw [List.zipWith_cons_cons,List.all_cons,Bool.and_eq_true,mqP]
  constructor
  ·rintro ⟨h1,h2⟩ i c' s' hc hs
   cases i with
   | zero => cases hc; cases hs; exact h1
   | succ i => exact h2 i c' s' hc hs
  ·intro h
   exact ⟨h 0 c s rfl rfl,fun i c' s' hc hs => h (i + 1) c' s' hc hs⟩
theorem oq0 {cs:List Pc}{cl r e:Bool}{ss:List (List Nat)}:fitsP cs cl r ss e=true ↔ ∃ ms,spreadM cs ss.length=some ms∧r=true∧e=cl∧∀ (i:Nat) (c:Pc) (s:List Nat),ms[i]?=some c->ss[i]?=some s->fitsM c s=true:=by
 unfold fitsP
 cases h:spreadM cs ss.length with
 | none => exact ⟨fun h => (by cases h),fun ⟨_,h,_⟩ => (by cases h)⟩
 | some ms =>
  show (r && decide (e=cl) && _)=true ↔ _
  rw [Bool.and_eq_true,Bool.and_eq_true,decide_eq_true_eq,mqP]
  exact ⟨fun ⟨⟨a,b⟩,c⟩ => ⟨ms,rfl,a,b,c⟩,fun ⟨ms',e',a,b,c⟩ => by cases e'; exact ⟨⟨a,b⟩,c⟩⟩
end Wm
namespace L2
open PySem
section
variable {p:Addr}{fv:St}{tt:TT}{te:TE}{Q:VK}{H1:Hp}
theorem lqr {n:Nat} (f:Nat->Bool) (g:Nat->V) (hlen:n ≤ sizeLine) (hp:H1 p=none)
  (ht:∀ i,i < n->∀ (H':Hp) (R:Bool->Hp->Prop),Same H1 H'->(∀ H'',Same H' H''->R (f i) H'')->tt (some (.int (0 + (i:Int))) :: fv) H' R)
  (he:∀ i,i < n->f i=true->∀ (H':Hp) (T:VK),Same H1 H'->(∀ H'',Same H' H''->T (g i) H'')->te (some (.int (0 + (i:Int))) :: fv) H' T)
  (hQ:∀ H',Same H1 H'->H' p=some (.lst (((List.range n).filter f).map g))->Q (.ref p) H'):CompI (Itr 0 n) p fv tt te Q H1:=by
 refine ⟨fun i m ys H2 => m=n - i∧i ≤ n∧ys=((List.range i).filter f).map g∧H2 p=some (.lst ys)∧Same H1 H2,⟨n,by simp,Nat.zero_le _,by simp,aqk,fun b o e => by rw [aqq (aql e hp)]; exact e⟩,?_⟩
 rintro i m ys H2 ⟨rfl,hi,rfl,hp2,sm⟩
 refine ⟨hp2,?_⟩
 by_cases hlt:i < n
 ·refine .inr ⟨hlt,?_,fun x H3 y => ?_⟩
  ·rw [List.length_map]
   have:=List.length_filter_le f (List.range i)
   rw [List.length_range] at this
   omega
  ·obtain ⟨rfl,rfl⟩:=y
   refine ht i hlt _ _ sm fun H4 s4 => ?_
   by_cases hf:f i=true
   ·rw [if_pos hf]
    refine he i hlt hf _ _ (sm.trans s4) fun H5 s5 => ⟨(s4.trans s5) _ _ hp2,n - (i + 1),by omega,rfl,hlt,?_,aqk,fun b o e => ?_⟩
    ·rw [List.range_succ,List.filter_append,List.map_append]; simp [hf]
    ·rw [aqq (aql e hp)]; exact (s4.trans s5) _ _ (sm _ _ e)
   ·rw [if_neg hf]
    refine ⟨n - (i + 1),by omega,rfl,hlt,?_,s4 _ _ hp2,sm.trans s4⟩
    rw [List.range_succ,List.filter_append,List.map_append]; simp [hf]
 ·have e:i=n:=by omega
  subst e
  exact .inl ⟨Nat.le_refl _,hQ H2 sm hp2⟩
end
end L2
namespace Wm
open PySem L2
theorem fqp {H:Hp}:∀ l:List Int,IsAll H (l.map PyData.int) (l.map V.int)
 | [] => .nil
 | c :: ss => .cons (.int _) (fqp ss)
theorem lqE (l:List Int):SeqAt.shaped (.list (l.map PyData.int))=true:=by
 refine LayAt.shaped (n:=1) (layL (n:=0) fun d hd => ?_) (by decide)
 obtain ⟨c,hc,rfl⟩:=List.mem_map.mp hd
 exact ⟨rfl,Nat.le_refl _⟩
def PtAt (H:Hp) (cs:List Pc) (e:Bool) (p:Addr):Prop:=∃ (q:Addr) (xs:List V),H p=some (.tup [.ref q,.bl e])∧H q=some (.tup xs)∧PcT H cs xs
theorem PtAt.mono {H H':Hp}{cs:List Pc}{e:Bool}{p:Addr} (s:SameT H H') (h:PtAt H cs e p):PtAt H' cs e p:=by
 obtain ⟨q,xs,h1,h2,h3⟩:=h
 exact ⟨q,xs,s _ _ h1,s _ _ h2,h3.mono s⟩
def PcsOk (cs:List Pc):Prop:=cs.length ≤ 90∧∀ c ∈ cs,PcOk c∧PcSg c
theorem lqC {c:Pc} (o:PcOk c) (hn:∀ x ∈ c.name,isSg x=true):PcSg c :=
 ⟨fun l h => by subst h; exact o.2.2.1,fun h n t e => by subst e; exact ⟨o.2.2.1,o.2.2.2.1⟩,hn⟩
theorem PcT.pick {H:Hp}{cs:List Pc}{xs:List V} (h:PcT H cs xs):∀ il:List Nat,(∀ i ∈ il,i < xs.length)->PcT H (il.map fun i => cs[i]?.getD (.gap [])) (il.map fun i => xs[i]?.getD .non)
 | [],_ => .nil
 | i :: il,hi => by
  have hlt:=hi i (List.mem_cons_self ..)
  have hv:xs[i]?=some xs[i]:=List.getElem?_eq_getElem hlt
  obtain ⟨c,p,hc,e,hp⟩:=h.get hv
  rw [List.map_cons,List.map_cons,hc,hv,e]
  exact .cons hp (PcT.pick h il fun j hj => hi j (List.mem_cons_of_mem _ hj))
theorem gqh {H H':Hp}{a:Addr} (s:Same H H') (h:H' a=none):H a=none:=by
 cases e:H a with
 | none => rfl
 | some o => rw [s _ _ e] at h; cases h
theorem jqB {H H':Hp}{l:Addr}{ys:List V} (s:Same H H') (h:H l=none):Same H (upd H' l (.lst ys)):=fun b o hb => by
 rw [aqq (fun w => by subst w; rw [h] at hb; cases hb)]; exact s _ _ hb
theorem eqZ {H:Hp}{l:Addr}{ys zs:List V} (h:H l=some (.lst zs)):SameT H (upd H l (.lst ys)):=fun b o hb => by
 rw [aqq (fun w => by subst w; rw [h] at hb; cases hb)]; exact hb
def alikeM:Pc->Pc->Bool
 | .step v,.step w => decide (v=w)
 | .part h _ t,.part h' _ t' => decide (h=h') && decide (t=t')
 | .num _,.num _ => true
 | .word _,.word _ => true
 | .gap _,.gap _ => true
 | .rest _,.rest _ => true
 | _,_ => false
structure Wid (c d:Pc):Prop where
 ok:PcOk d
 nr:d.isRest=false
 fits:∀ s,fitsM c s=true->fitsM d s=true
 grown:alikeM c d=true ∨ stepBey d c ≠ none
theorem oqs (h t z:List Nat) (hz:0 < z.length):partB h t (h ++ z ++ t)=true:=by
 have hlen:(h ++ z ++ t).length=h.length + z.length + t.length:=by simp only [List.length_append]
 unfold partB
 simp only [Bool.and_eq_true,decide_eq_true_eq]
 refine ⟨by rw [List.append_assoc,List.take_left],?_,by omega⟩
 have hd:(h ++ z ++ t).length - t.length=(h ++ z).length:=by rw [hlen,List.length_append]; omega
 rw [hd,List.drop_left]
def restM (cs:List Pc):Nat:=if hasRest cs=true then cs.length - 1 else cs.length
structure WidAll (cs ds:List Pc):Prop where
 len:ds.length=restM cs
 wid:∀ (i:Nat) (c d:Pc),cs[i]?=some c->ds[i]?=some d->Wid c d
end Wm
namespace L2
open PySem PySem.Spec PySem.W PySem.Calls PyProof.Rows
section
variable {prog:Program}{w:World}{A:Around}{R:Result->Shared->Prop}{I S:Addr}{fp wr:List Addr}{P:Nat->Value->Prop}{St:Nat->Heap->Prop}{n:Nat}
end
section
variable {A:Around}{prog:Program}{w:World}{s:Shared}{E:Value->Shared->Prop}
end
section
variable {X:Cx}{p pos kp kpos:Pos}{e e2:Expr}{t:TA}
end
end L2
namespace Wm
open PySem L2
theorem PcOk.ends {c:Pc} (o:PcOk c):c.head.length ≤ 100∧c.tail.length ≤ 100:=by
 cases c with
 | part h n t => exact ⟨o.1,o.2.1⟩
 | _ => exact ⟨Nat.zero_le _,Nat.zero_le _⟩
end Wm
namespace HT
open PySem PyProof.Rows
theorem pqL (A:Around) (s:Shared) (a:Int) (t:Tok) (c:Int) (u:Tok) (prog:Program) (w:World) (E:Value->Shared->Prop) (Q:Value->Shared->Prop) (h:Q (.bool (decide (c < a))) s) :
  wpAny (model prog w) A (richCompare .Gt (.int a t) (.int c u)) Q E s :=
 (PyProof.Rows.gt_int h:wpAny (model prog w) A (compareOp .Gt (.int a t) (.int c u)) Q E s)
section
open PySem.SeqAt
open PySem.AutoSeq1 (wpAny_loadPart')
open PySem.MeetsSeq PySem.MeetsSeq2 PySem.MeetsSeq3
theorem kqg (l b:Addr) (items items2:Array Value) (n n2:Nat) (dd dd2:Option Addr) (sl sl2:Array (Option Value)) (ns ms:List Int) (hi:IntsAre items.toList ns) (hj:IntsAre items2.toList ms) :
  Meets (Builtin.«tuple.__gt__» ⟨[.ref l,.ref b],[]⟩)
   (fun _ R s => s.heap.get? l=some { cls:=.type "tuple",dict:=dd,data:=.seq items n,slots:=sl }∧s.heap.get? b=some { cls:=.type "tuple",dict:=dd2,data:=.seq items2 n2,slots:=sl2 } ∧
    R (.ok (.ret (.bool (lexLt ms ns)))) s) :=
 .of_wp fun prog w A R s h => by
  obtain ⟨hp,g,d,tk,os⟩:=s; obtain ⟨hl,hb,h⟩:=h
  have f2:=AutoSeq1.sub_tuple_tuple
  have z1:items.size=ns.length:=by rw [<- hi.length]; simp
  have z2:items2.size=ms.length:=by rw [<- hj.length]; simp
  wp_walk using wpAny_loadPart' hl,wpAny_loadPart' hb,wpAny_forIn_list _ (fun rest b s' => b.1=none∧s'=⟨hp,g,d,tk,os⟩∧∃ (vs ws:List Value) (ns' ms':List Int),rest=vs.zip ws ∧
   IntsAre vs ns'∧IntsAre ws ms'∧ns'.length + items2.size=ms'.length + items.size∧R (.ok (.ret (.bool (lexLt ms' ns')))) ⟨hp,g,d,tk,os⟩) _
  case turn =>
   rintro ⟨y,x⟩ rest b s' ⟨hb',rfl,vs,ws,ns',ms',hz,hvi,hwi,hlen,hR⟩
   cases hvi with
   | nil => rw [List.zip_nil_left] at hz; cases hz
   | cons a t hvi' =>
    cases hwi with
    | nil => rw [List.zip_nil_right] at hz; cases hz
    | cons c u hwi' =>
     rw [List.zip_cons_cons] at hz
     injection hz with hyx hrest
     injection hyx with hy hx
     subst hy hx
     rw [nqa] at hR
     simp only [List.length_cons] at hlen
     obtain ⟨e,he,hiff⟩:=qqW A.in1 ⟨hp,g,d,tk,os⟩ a t c u
     refine wpAny_bind (he prog w _ _ ?_)
     cases e with
     | true =>
      rw [if_pos (hiff.mp rfl).symm] at hR
      wp_walk
      exact ⟨rfl,rfl,_,_,_,_,hrest,hvi',hwi',by omega,hR⟩
     | false =>
      rw [if_neg (fun q => absurd (hiff.mpr q.symm) Bool.false_ne_true)] at hR
      have hri:=pqL A.in1 ⟨hp,g,d,tk,os⟩ a t c u prog w
      wp_walk using hri
      exact ⟨_,rfl,by simpa using hR⟩
  case fin =>
   rintro ⟨b1,b2⟩ s' ⟨hb',rfl,vs,ws,ns',ms',hz,hvi,hwi,hlen,hR⟩
   simp only at hb'
   subst hb'
   have hv:lexLt ms' ns'=decide (items2.size < items.size):=by
    cases hvi with
    | nil =>
     cases hwi with
     | nil =>
      simp only [List.length_nil] at hlen
      rw [kqm]
      exact (decide_eq_false (by omega)).symm
     | cons c u hw =>
      simp only [List.length_nil,List.length_cons] at hlen
      rw [iqL]
      exact (decide_eq_false (by omega)).symm
    | cons a t hv =>
     cases hwi with
     | nil =>
      simp only [List.length_nil,List.length_cons] at hlen
      rw [iqE]
      exact (decide_eq_true (by omega)).symm
     | cons c u hw =>
      rw [List.zip_cons_cons] at hz
      cases hz
   rw [hv] at hR
   wp_walk
   exact ⟨_,rfl,by simpa [Builtin.Tuple.tupleCompareSizes] using hR⟩
  case h =>
   exact ⟨rfl,rfl,items.toList,items2.toList,ns,ms,rfl,hi,hj,by omega,h⟩
end
section
variable {prog:Program}{w:World}{A:Around}{E:Value->Shared->Prop}{s:Shared}
theorem gt_tupInts {l b:Addr}{items items2:Array Value}{ns ms:List Int}{Q:Value->Shared->Prop} (hl:IsTup s.heap l items) (hb:IsTup s.heap b items2) (hi:IntsAre items.toList ns) (hj:IntsAre items2.toList ms)
  (hu:A.units < cLine) (h:Q (.bool (lexLt ms ns)) s):wpAny (model prog w) A (compareOp .Gt (.ref l) (.ref b)) Q E s:=by
 obtain ⟨⟨cls,dd,data,sl⟩,ho,hc,n,hd⟩:=id hl
 obtain ⟨⟨cls2,dd2,data2,sl2⟩,ho2,hc2,n2,hd2⟩:=id hb
 simp only at hc hd hc2 hd2
 subst hc hd hc2 hd2
 exact richCompare_meets_room (op:=.Gt) ⟨_,ho,rfl⟩ ⟨_,ho2,rfl⟩ PySem.F.slot_tuple_gt PySem.F.entry_tuple_gt (PySem.F.args_tuple_gt_2 _ _) (kqg l b items items2 n n2 dd dd2 sl sl2 ns ms hi hj)
  ⟨ho,ho2,show Value.bool (lexLt ms ns) ≠ Value.notImplemented∧Q (.bool (lexLt ms ns)) s from ⟨(fun x => nomatch x),h⟩⟩ hu
end
end HT
namespace L2
open PySem PySem.Spec PyProof.Rows PyProof.V
section
variable {X:Cx}{o i:Expr}{x:Str}{np pos:Pos}{td ty:TE}
def tTab (p:Addr) (D:List (PyData × PyData)) (td ty:TE):TE:=fun σ H Q => td σ H fun x H1 => ty σ H1 fun y H2 => x=.ref p∧∃ (k:Str) (n:Int),y=.str k∧lookup (.str k) D=some (.int n)∧Q (.int n) H2
theorem uqa {p:Addr}{D:List (PyData × PyData)}{σ:St}{H:Hp}{Q:VK}:(tTab p D td ty σ H Q)=(td σ H fun x H1 => ty σ H1 fun y H2 => x=.ref p∧∃ (k:Str) (n:Int),y=.str k∧lookup (.str k) D=some (.int n)∧Q (.int n) H2):=rfl
theorem uqv {p:Addr}{D:List (PyData × PyData)} (T:∀ h:Heap,X.K.In h->StrTab X.prog X.w h p D) (ho:PE X (.Name x np) td) (hi:PE X i ty) (hs:∀ ov iv,subscripted i false ov iv=operate [ov,iv] (getItem ov iv)):PE X (.Subscript (.Name x np) i pos) (tTab p D td ty):=by
 intro pins s σ H Q I h
 refine Subscript_ (thn (ho pins s σ H _ I h) fun u s1 ⟨x,H1,I1,rx,q1⟩ => thn (hi pins s1 σ H1 _ I1 q1) fun iv s2 W' => ?_)
 obtain ⟨y,H2,I2,ry,ex,k,n,ey,hl,q2⟩:=W'
 subst ex ey
 obtain rfl:u=Value.ref p:=rx
 obtain ⟨t,rfl⟩:=ry
 refine item_strTab (T _ I2.kIn) hl (fun v hv => ?_) (hs _ _)
 obtain ⟨t',rfl⟩:=hv.int_inv
 exact ⟨.int n,H2,I2.tok _,⟨t',rfl⟩,q2⟩
def rGtT (K:PySem.W.Frag):R2:=fun x y H Q => ∃ a b ns ms,x=.ref a∧y=.ref b∧SqT K H a (ns.map V.int)∧SqT K H b (ms.map V.int)∧Q (.bl (HT.lexLt ms ns)) H
theorem tqV {K:PySem.W.Frag} (hK:X.K=K) (hu:X.A.units + 64 < cLine):OpR X (compareOp .Gt) (rGtT K):=by
 subst hK
 intro pins s σ H x y v u Q I rx ry h
 obtain ⟨a,b,ns,ms,rfl,rfl,ha,hb,q⟩:=h
 cases rx
 cases ry
 obtain ⟨us,r1,p1,_⟩:=I.tuple ha
 obtain ⟨ws,r2,p2,_⟩:=I.tuple hb
 exact HT.gt_tupInts p1 p2 (fqt r1) (fqt r2) (by omega) ⟨.bl (HT.lexLt ms ns),H,I,rfl,q⟩
end
end L2
namespace Wm
open PySem L2
def wordW:Pc->Int
 | .step _ => 6
 | .part .. => 5
 | .num _ => 4
 | .word _ => 3
 | .gap _ => 2
 | .rest _ => 1
def worthM (c:Pc):List Int:=[wordW c,((c.head.length + c.tail.length:Nat):Int),(c.head.length:Int)]
def moreM:List Pc->List Pc->Bool
 | [],[] => false
 | [],_ :: _ => true
 | _ :: _,[] => false
 | c :: cs,d :: ds => if worthM c=worthM d then moreM cs ds else HT.lexLt (worthM d) (worthM c)
theorem qqJ:∀ {A B:List Pc},A=[] ∨ B=[]->moreM A B=decide (A.length < B.length)
 | [],[],_ => rfl
 | [],_ :: _,_ => by simp [moreM]
 | _ :: _,[],_ => by simp [moreM]
 | _ :: _,_ :: _,h => by rcases h with h | h <;> cases h
theorem pqK {w s:List Nat} (h:fitsM (.step w) s=true):s=w:=of_decide_eq_true (Bool.and_eq_true_iff.mp h).2
theorem qqT {a n b s:List Nat} (h:fitsM (.part a n b) s=true):partB a b s=true:=(Bool.and_eq_true_iff.mp h).2
def LastR (cs:List Pc):Prop:=∀ (i:Nat) (c:Pc),cs[i]?=some c->c.isRest=true->i + 1=cs.length
theorem nqi {cs:List Pc}{i:Nat}{c:Pc} (l:LastR cs) (h:cs[i]?=some c) (hr:c.isRest=true):hasRest cs=true:=by
 have:=l i c h hr
 unfold hasRest
 rw [List.getLast?_eq_getElem?,<- this,Nat.add_sub_cancel,h]
 exact hr
theorem oqP:∀ a:List Int,HT.lexLt a a=false
 | [] => rfl
 | x :: xs => by show (if x=x then HT.lexLt xs xs else decide (x < x))=false; rw [if_pos rfl]; exact oqP xs
theorem kqj:∀ a b:List Int,HT.lexLt a b=false->HT.lexLt b a=false->a=b
 | [],[],_,_ => rfl
 | [],_ :: _,h,_ => (by cases h)
 | _ :: _,[],_,h => (by cases h)
 | x :: xs,y :: ys,h1,h2 => by
  have e1:(if x=y then HT.lexLt xs ys else decide (x < y))=false:=h1
  have e2:(if y=x then HT.lexLt ys xs else decide (y < x))=false:=h2
  by_cases e:x=y
  ·rw [if_pos e] at e1
   rw [if_pos e.symm] at e2
   rw [e,kqj xs ys e1 e2]
  ·rw [if_neg e,decide_eq_false_iff_not] at e1
   rw [if_neg (Ne.symm e),decide_eq_false_iff_not] at e2
   omega
theorem hqQ:∀ a b c:List Int,HT.lexLt a b=true->HT.lexLt b c=true->HT.lexLt a c=true
 | [],[],_,h,_ => (by cases h)
 | [],_ :: _,[],_,h => (by cases h)
 | [],_ :: _,_ :: _,_,_ => (rfl)
 | _ :: _,[],_,h,_ => (by cases h)
 | _ :: _,_ :: _,[],_,h => (by cases h)
 | x :: xs,y :: ys,z :: zs,h1,h2 => by
  have e1:(if x=y then HT.lexLt xs ys else decide (x < y))=true:=h1
  have e2:(if y=z then HT.lexLt ys zs else decide (y < z))=true:=h2
  show (if x=z then HT.lexLt xs zs else decide (x < z))=true
  by_cases a:x=y <;> by_cases b:y=z
  ·rw [if_pos a] at e1
   rw [if_pos b] at e2
   rw [if_pos (a.trans b)]
   exact hqQ xs ys zs e1 e2
  ·rw [if_neg b,decide_eq_true_eq] at e2
   rw [if_neg (by omega)]
   exact (decide_eq_true (by omega))
  ·rw [if_neg a,decide_eq_true_eq] at e1
   rw [if_neg (by omega)]
   exact (decide_eq_true (by omega))
  ·rw [if_neg a,decide_eq_true_eq] at e1
   rw [if_neg b,decide_eq_true_eq] at e2
   rw [if_neg (by omega)]
   exact (decide_eq_true (by omega))
theorem sqF {a b c:List Int} (h1:HT.lexLt a b=false) (h2:HT.lexLt b c=false):HT.lexLt a c=false:=by
 cases e:HT.lexLt a c with
 | false => rfl
 | true =>
  cases e2:HT.lexLt b a with
  | true => have:=hqQ b a c e2 e; rw [h2] at this; cases this
  | false => have:=kqj a b h1 e2; subst this; rw [e] at h2; cases h2
theorem mqh:∀ a:List Pc,moreM a a=false
 | [] => rfl
 | x :: xs => by unfold moreM; rw [if_pos rfl]; exact mqh xs
theorem gqy:∀ {a b c:List Pc},moreM a b=true->moreM b c=true->moreM a c=true
 | [],[],_,h,_ => (by cases h)
 | [],_ :: _,[],_,h => (by cases h)
 | [],_ :: _,_ :: _,_,_ => (rfl)
 | _ :: _,[],_,h,_ => (by cases h)
 | _ :: _,_ :: _,[],_,h => (by cases h)
 | x :: xs,y :: ys,z :: zs,h1,h2 => by
  unfold moreM at h1 h2 ⊢
  by_cases a:worthM x=worthM y <;> by_cases b:worthM y=worthM z
  ·rw [if_pos a] at h1
   rw [if_pos b] at h2
   rw [if_pos (a.trans b)]
   exact gqy h1 h2
  ·rw [if_neg b] at h2
   rw [if_neg (fun z => b (a.symm.trans z)),a]
   exact h2
  ·rw [if_neg a] at h1
   rw [if_neg (fun z => a (z.trans b.symm)),<- b]
   exact h1
  ·rw [if_neg a] at h1
   rw [if_neg b] at h2
   have:=hqQ _ _ _ h2 h1
   rw [if_neg (fun e => by rw [e,oqP] at this; cases this)]
   exact this
theorem nqk {a b:List Pc} (h:moreM a b=true):moreM b a=false:=by
 cases e:moreM b a with
 | false => rfl
 | true => have:=gqy h e; rw [mqh] at this; cases this
theorem mqe:∀ {a b c:List Pc},moreM a b=false->moreM b c=false->moreM a c=false
 | [],[],_,_,h => h
 | [],_ :: _,_,h,_ => (by cases h)
 | _ :: _,[],[],_,_ => (rfl)
 | _ :: _,[],_ :: _,_,h => (by cases h)
 | _ :: _,_ :: _,[],_,_ => (rfl)
 | x :: xs,y :: ys,z :: zs,h1,h2 => by
  unfold moreM at h1 h2 ⊢
  by_cases a:worthM x=worthM y <;> by_cases b:worthM y=worthM z
  ·rw [if_pos a] at h1
   rw [if_pos b] at h2
   rw [if_pos (a.trans b)]
   exact mqe h1 h2
  ·rw [if_neg b] at h2
   rw [if_neg (fun z => b (a.symm.trans z)),a]
   exact h2
  ·rw [if_neg a] at h1
   rw [if_neg (fun z => a (z.trans b.symm)),<- b]
   exact h1
  ·rw [if_neg a] at h1
   rw [if_neg b] at h2
   by_cases c:worthM x=worthM z
   ·rw [c] at h1
    exact absurd (kqj _ _ h1 h2) b
   ·rw [if_neg c]
    exact sqF h2 h1
def mostM {α:Type} (mr:α->α->Bool) (b:α):List α->α
 | [] => b
 | e :: r => mostM mr (if mr e b=true then e else b) r
theorem gqR {α:Type}{mr:α->α->Bool} (ht:∀ a b c,mr a b=true->mr b c=true->mr a c=true) (hn:∀ a b c,mr a b=false->mr b c=false->mr a c=false) (hs:∀ a b,mr a b=true->mr b a=false) :
  ∀ (L pre mid:List α) (b:α),(∀ t ∈ pre,mr b t=true∧mr t b=false)->(∀ t ∈ mid,mr t b=false) ->
   ∃ pr po,pre ++ b :: mid ++ L=pr ++ mostM mr b L :: po∧(∀ t ∈ pr,mr (mostM mr b L) t=true∧mr t (mostM mr b L)=false)∧∀ t ∈ po,mr t (mostM mr b L)=false
 | [],pre,mid,b,h1,h2 => ⟨pre,mid,by simp [mostM],h1,h2⟩
 | e :: r,pre,mid,b,h1,h2 => by
  unfold mostM
  by_cases he:mr e b=true
  ·rw [if_pos he]
   have hall:∀ t ∈ pre ++ b :: mid,mr e t=true∧mr t e=false:=fun t ht' => by
    have hb:mr t b=false ∨ t=b:=by
     rcases List.mem_append.mp ht' with y | y
     ·exact .inl (h1 t y).2
     ·rcases List.mem_cons.mp y with y | y
      ·exact .inr y
      ·exact .inl (h2 t y)
    rcases hb with hb | rfl
    ·have:mr e t=true:=by
      cases x:mr e t with
      | true => rfl
      | false => rw [hn e t b x hb] at he; cases he
     exact ⟨this,hs _ _ this⟩
    ·exact ⟨he,hs _ _ he⟩
   obtain ⟨pr,po,q1,q2,q3⟩:=gqR ht hn hs r (pre ++ b :: mid) [] e hall (fun t h => by cases h)
   exact ⟨pr,po,by rw [<- q1]; simp,q2,q3⟩
  ·rw [if_neg he]
   obtain ⟨pr,po,q1,q2,q3⟩:=gqR ht hn hs r pre (mid ++ [e]) b h1 (fun t h => by
    rcases List.mem_append.mp h with y | y
    ·exact h2 t y
    ·rw [List.mem_singleton.mp y]; exact (Bool.not_eq_true _).mp he)
   exact ⟨pr,po,by rw [<- q1]; simp,q2,q3⟩
theorem mq0 {α:Type}{mr:α->α->Bool} (ht:∀ a b c,mr a b=true->mr b c=true->mr a c=true) (hn:∀ a b c,mr a b=false->mr b c=false->mr a c=false) (hs:∀ a b,mr a b=true->mr b a=false)
  {T:List α}{p:α->Bool}{b:α}{L:List α} (h:T.filter p=b :: L) :
  ∃ pr po,T=pr ++ mostM mr b L :: po∧p (mostM mr b L)=true∧(∀ t ∈ pr,p t=true->mr (mostM mr b L) t=true∧mr t (mostM mr b L)=false)∧∀ t ∈ po,p t=true->mr t (mostM mr b L)=false:=by
 obtain ⟨pr,po,q1,q2,q3⟩:=gqR ht hn hs L [] [] b (fun t h => by cases h) (fun t h => by cases h)
 have e:T.filter p=pr ++ mostM mr b L :: po:=by rw [h,<- q1]; simp
 obtain ⟨t1,t2,e1,e2,e3⟩:=List.filter_eq_append_iff.mp e
 obtain ⟨u1,u2,e4,e5,e6,e7⟩:=List.filter_eq_cons_iff.mp e3
 refine ⟨t1 ++ u1,u2,by rw [e1,e4]; simp,e6,fun t ht' hp => ?_,fun t ht' hp => q3 t (by rw [<- e7]; exact List.mem_filter.mpr ⟨ht',hp⟩)⟩
 rcases List.mem_append.mp ht' with y | y
 ·exact q2 t (by rw [<- e2]; exact List.mem_filter.mpr ⟨y,hp⟩)
 ·exact absurd hp (e5 t y)
theorem sqI (a b:Int):PyData.eqv (.int a) (.int b)=true ↔ a=b:=by simp [PyData.eqv]
theorem qqD (a b:List Int):PyData.eqv (.tuple (a.map PyData.int)) (.tuple (b.map PyData.int))=decide (a=b):=by
 rw [Bool.eq_iff_iff,decide_eq_true_eq,PyData.eqv]
 exact jqb sqI _ _
theorem hq3 (l:List Int):SeqAt.shaped (.tuple (l.map PyData.int))=true:=by
 refine LayAt.shaped (n:=1) (LayAt.tup (n:=0) fun d hd => ?_) (by decide)
 obtain ⟨c,hc,rfl⟩:=List.mem_map.mp hd
 exact ⟨rfl,Nat.le_refl _⟩
theorem PcOk.tx {c:Pc} (o:PcOk c):PcTx c:=by
 cases c with
 | step w => exact ⟨Nat.zero_le _,Nat.zero_le _,fun w' h => by cases h; have:=o.2.1; omega⟩
 | part a n b => exact ⟨by have:=o.1; show a.length ≤ _; omega,by have:=o.2.1; show b.length ≤ _; omega,fun w h => by cases h⟩
 | _ => exact ⟨Nat.zero_le _,Nat.zero_le _,fun w h => by cases h⟩
theorem mqm:∀ {a b:List Pc},moreM a b=false->moreM b a=false->a.map worthM=b.map worthM
 | [],[],_,_ => rfl
 | [],_ :: _,h,_ => (by cases h)
 | _ :: _,[],_,h => (by cases h)
 | x :: xs,y :: ys,h1,h2 => by
  unfold moreM at h1 h2
  by_cases e:worthM x=worthM y
  ·rw [if_pos e] at h1
   rw [if_pos e.symm] at h2
   rw [List.map_cons,List.map_cons,e,mqm h1 h2]
  ·rw [if_neg e] at h1
   rw [if_neg (Ne.symm e)] at h2
   exact absurd (kqj _ _ h2 h1) e
def worthL (c:Pc):List Int:=match c with
 | .part h _ t => [4,((h.length + t.length:Nat):Int),(h.length:Int)]
 | c => [wordW c - 1]
theorem gqH {c d:Pc}:worthL c=worthL d ↔ worthM c=worthM d:=by
 cases c <;> cases d <;> simp [worthL,worthM,wordW,Pc.head,Pc.tail]
theorem hqV:∀ {a b:List Pc},a.map worthL=b.map worthL ↔ a.map worthM=b.map worthM
 | [],[] => by simp
 | [],_ :: _ => by simp
 | _ :: _,[] => by simp
 | x :: xs,y :: ys => by
  rw [List.map_cons,List.map_cons,List.map_cons,List.map_cons,List.cons.injEq,List.cons.injEq,gqH,hqV]
structure Wdr (c d:Pc):Prop where
 ok:PcOk d
 fit:∀ s,fitsM c s=true->fitsM d s=true
 le:HT.lexLt (worthM c) (worthM d)=false
 nr:d.isRest=c.isRest
theorem tqW {n:Nat} (h:n < 10 ^ 60):numB (dg (n:Int))=true:=by
 have hd:=iq6 n
 have ed:dg (n:Int)=(Nat.toDigits 10 n).map Char.toNat:=by unfold dg; rw [PySem.W.KIN.signs_num]
 have hfg:=rqb (i:=(n:Int)) (by omega)
 have hdl:(dg (n:Int)).length ≤ 60:=by rw [ed,List.length_map]; exact pqs h
 have hne:dg (n:Int) ≠ []:=by rw [ed]; exact hd.2.1
 unfold numB
 have hp1:1 ≤ (dg (n:Int)).length:=List.length_pos_iff.mpr hne
 have hal:(dg (n:Int)).all isFig=true:=List.all_eq_true.mpr fun x hx => by
  have:=hfg x hx
  simp only [isFig,Bool.and_eq_true,decide_eq_true_eq]
  exact this
 rw [decide_eq_true hp1,decide_eq_true hdl,hal]
 by_cases h0:(dg (n:Int)).head?=some 48
 ·rw [ed] at h0
  have:=hd.2.2 h0
  subst this
  rw [show dg ((0:Nat):Int)=[48] by decide +kernel]; decide
 ·rw [decide_eq_false h0]; simp
def kwS:List Str:=[Str.ofString "rest",Str.ofString "gap",Str.ofString "word",Str.ofString "number",Str.ofString "part",Str.ofString "step"]
theorem uq6 (c:Pc):∃ j:Nat,(kwS.map V.str)[j]?=some (.str c.kw)∧(∀ i,i < j->(kwS.map V.str)[i]? ≠ some (.str c.kw))∧(j:Int)=wordW c - 1:=by
 have go:∀ (j:Nat) (s:Str),kwS[j]?=some s->(∀ i,i < j->kwS[i]? ≠ some s)->(kwS.map V.str)[j]?=some (.str s)∧∀ i,i < j->(kwS.map V.str)[i]? ≠ some (.str s):=fun j s h1 h2 => ⟨by rw [List.getElem?_map,h1]; rfl,fun i hi z => by
  rw [List.getElem?_map] at z
  obtain ⟨y,hy,e⟩:=Option.map_eq_some_iff.mp z
  injection e with e
  subst e
  exact h2 i hi hy⟩
 cases c with
 | step w => obtain ⟨a,b⟩:=go 5 (Str.ofString "step") (by decide +kernel) (by decide +kernel); exact ⟨5,a,b,rfl⟩
 | part x y z => obtain ⟨a,b⟩:=go 4 (Str.ofString "part") (by decide +kernel) (by decide +kernel); exact ⟨4,a,b,rfl⟩
 | num n => obtain ⟨a,b⟩:=go 3 (Str.ofString "number") (by decide +kernel) (by decide +kernel); exact ⟨3,a,b,rfl⟩
 | word n => obtain ⟨a,b⟩:=go 2 (Str.ofString "word") (by decide +kernel) (by decide +kernel); exact ⟨2,a,b,rfl⟩
 | gap n => obtain ⟨a,b⟩:=go 1 (Str.ofString "gap") (by decide +kernel) (by decide +kernel); exact ⟨1,a,b,rfl⟩
 | rest n => obtain ⟨a,b⟩:=go 0 (Str.ofString "rest") (by decide +kernel) (by decide +kernel); exact ⟨0,a,b,rfl⟩
end Wm
namespace L2
open PySem PySem.Spec PyProof.Rows
section
variable {X:Cx}
def rIndexL:V->List V->Hp->VK->Prop:=fun x vs H Q => ∃ (l:Addr) (xs:List V) (k:Str) (j:Nat),x=.ref l∧vs=[.str k]∧H l=some (.lst xs)∧(∀ v ∈ xs,∃ z,v=.str z)∧xs[j]?=some (.str k)∧(∀ i,i < j->xs[i]? ≠ some (.str k))∧Q (.int j) H
def strIs (k:Str):Value->Bool
 | .str z _ => z == k
 | _ => false
theorem oqb:MtR X "list.index" rIndexL:=by
 intro pins s σ H x vs v us Q I rx rv h
 obtain ⟨l,xs,k,j,rfl,rfl,hH,hall,hj,hno,q⟩:=h
 cases rx
 obtain ⟨u,rfl,t,rfl⟩:=vals1 rv
 obtain ⟨z,its,n,r,hl,e⟩:=I.lstM hH
 have hjl:=(List.getElem?_eq_some_iff.mp hj).1
 have hz:sizeLine < 2 ^ 62:=by decide
 have at_:∀ (i:Nat) (h:i < its.length),∃ y t',xs[i]?=some (.str y)∧its[i]=.str y t':=fun i h => by
  have hx:xs[i]?=some xs[i]:=List.getElem?_eq_getElem (by omega)
  obtain ⟨y,hy⟩:=hall _ (List.mem_of_getElem? hx)
  rw [hy] at hx
  obtain ⟨u,hu,t',rfl⟩:=r.get hx
  refine ⟨y,t',hx,?_⟩
  rw [List.getElem?_eq_getElem h] at hu
  injection hu
 refine call_meets F.slot_list_index ⟨_,e,rfl⟩ F.entry_list_index (F.args_list_index_2 _ _) (SeqAt.list_indexAt l its.toArray n none #[] (.str k t) (strIs k) j (by rw [List.size_toArray]; omega) (by omega) ?_ ?_) ⟨e,fun y hy => ?_,⟨.int j,H,I.tok _,⟨_,rfl⟩,q⟩⟩
 ·obtain ⟨y,t',h1,h2⟩:=at_ j (by omega)
  rw [hj] at h1
  cases h1
  show strIs k its[j]=true
  rw [h2]
  exact beq_self_eq_true k
 ·intro i hi hlt
  rw [List.size_toArray] at hi
  obtain ⟨y,t',h1,h2⟩:=at_ i hi
  show strIs k its[i]=false
  rw [h2]
  exact beq_eq_false_iff_ne.mpr fun z => hno i hlt (by rw [h1,z])
 ·obtain ⟨i,hi,rfl⟩:=List.getElem_of_mem (show y ∈ its by simpa using hy)
  obtain ⟨y,t',h1,h2⟩:=at_ i hi
  rw [h2]
  exact SeqAt.EqAt.str_str y t' k t
theorem oqe {l:Addr}{k:Str}{H:Hp}{Q:VK}:rIndexL (.ref l) [.str k] H Q ↔ ∃ (xs:List V) (j:Nat),H l=some (.lst xs)∧(∀ v ∈ xs,∃ z,v=.str z)∧xs[j]?=some (.str k)∧(∀ i,i < j->xs[i]? ≠ some (.str k))∧Q (.int j) H :=
 ⟨fun ⟨_,xs,_,j,e1,e2,h⟩ => by cases e1; cases e2; exact ⟨xs,j,h⟩,fun ⟨xs,j,h⟩ => ⟨l,xs,k,j,rfl,rfl,h⟩⟩
end
end L2
namespace HT
open PySem PyProof.Rows
def GtAt (A:Around) (s:Shared) (x y:Value) (b:Bool):Prop:=∀ (prog:Program) (w:World) (E:Value->Shared->Prop) (Q:Value->Shared->Prop),Q (.bool b) s->wpAny (model prog w) A (richCompare .Gt x y) Q E s
def lexG {α:Type} (eqf gtf:α->α->Bool):List α->List α->Bool
 | [],_ => false
 | _ :: _,[] => true
 | x :: xs,y :: ys => if eqf x y=true then lexG eqf gtf xs ys else gtf x y
theorem qqK {α:Type}{eqf gtf:α->α->Bool}:∀ {xs ys:List α},xs=[] ∨ ys=[]->lexG eqf gtf xs ys=decide (ys.length < xs.length)
 | [],ys,_ => by simp [lexG]
 | x :: xs,[],_ => by simp [lexG]
 | _ :: _,_ :: _,h => by rcases h with h | h <;> cases h
section
open PySem.SeqAt
open PySem.AutoSeq1 (wpAny_loadPart')
open PySem.MeetsSeq PySem.MeetsSeq2 PySem.MeetsSeq3
variable {α:Type}{eqf gtf:α->α->Bool}{l b:Addr}{us ws:Array Value}{n n2:Nat}{dd dd2:Option Addr}{sl sl2:Array (Option Value)}{xs ys:List α}
def GtIts (A:Around) (s:Shared) (us ws:Array Value) (eqf gtf:α->α->Bool) (xs ys:List α):Prop :=
 ∀ (j:Nat) (x y:α) (u w:Value),us[j]?=some u->ws[j]?=some w->xs[j]?=some x->ys[j]?=some y->EqAt A s u w (eqf x y)∧(eqf x y=false->GtAt A s u w (gtf x y))
theorem pqh (h1:us.size=xs.length) (h2:ws.size=ys.length) (k:Nat):∀ i:Nat,min xs.length ys.length - i=k->i ≤ min xs.length ys.length ->
  Meets (Builtin.«list.__eq__.loop» ⟨[.ref l,.ref b,rawInt i,rawInt 4],[]⟩)
   (fun A R s => s.heap.get? l=some { cls:=.type "list",dict:=dd,data:=.seq us n,slots:=sl }∧s.heap.get? b=some { cls:=.type "list",dict:=dd2,data:=.seq ws n2,slots:=sl2 } ∧
    GtIts A.in1 s us ws eqf gtf xs ys∧R (.ok (.ret (.bool (lexG eqf gtf (xs.drop i) (ys.drop i))))) s):=by
 induction k with
 | zero =>
  intro i hk hi prog w A R s h
  obtain ⟨hp,gg,dd',tk,os⟩:=s
  obtain ⟨hl,hb,_,h⟩:=h
  have hor:xs.drop i=[] ∨ ys.drop i=[]:=by simp only [List.drop_eq_nil_iff]; omega
  rw [qqK hor] at h
  wp_walk using wpAny_loadPart' hb,wpAny_loadPart' hl
  have e0:us[((i:Nat):Int).toNat]?=none ∨ ws[((i:Nat):Int).toNat]?=none:=by
   simp only [Int.toNat_natCast,Array.getElem?_eq_none_iff]; omega
  have hd:decide ((ys.drop i).length < (xs.drop i).length)=decide (us.size > ws.size):=by
   rw [List.length_drop,List.length_drop]; exact decide_eq_decide.mpr (by omega)
  rw [hd] at h
  rcases e0 with e0 | e0
  ·rw [e0]
   cases us[((i:Nat):Int).toNat]? <;> cases ws[((i:Nat):Int).toNat]? <;> (wp_walk using wpAny_loadPart' hl,wpAny_loadPart' hb; exact h)
  ·rw [e0]
   cases us[((i:Nat):Int).toNat]? <;> (wp_walk using wpAny_loadPart' hl,wpAny_loadPart' hb; exact h)
 | succ k ih =>
  intro i hk hi prog w A R s h
  obtain ⟨hp,gg,dd',tk,os⟩:=s
  obtain ⟨hl,hb,he,h⟩:=h
  have a1:i < xs.length:=by omega
  have a2:i < ys.length:=by omega
  obtain ⟨u,hu⟩:∃ u,us[i]?=some u:=⟨_,Array.getElem?_eq_getElem (by omega)⟩
  obtain ⟨z,hz⟩:∃ z,ws[i]?=some z:=⟨_,Array.getElem?_eq_getElem (by omega)⟩
  have hu':us[((i:Nat):Int).toNat]?=some u:=by simpa using hu
  have hz':ws[((i:Nat):Int).toNat]?=some z:=by simpa using hz
  rw [List.drop_eq_getElem_cons a1,List.drop_eq_getElem_cons a2] at h
  obtain ⟨f1,f2⟩:=he i xs[i] ys[i] u z hu hz (List.getElem?_eq_getElem a1) (List.getElem?_eq_getElem a2)
  have hc:((i:Int) + 1)=((i + 1:Nat):Int):=by omega
  wp_walk using wpAny_loadPart' hb,wpAny_loadPart' hl
  rw [hu',hz']
  refine wpAny_bind (f1 prog w _ _ ?_)
  unfold lexG at h
  cases hb':eqf xs[i] ys[i] with
  | true =>
   rw [if_pos hb'] at h
   wp_walk
   rw [hc]
   refine ⟨plainId_quiet plain_eq_loop _,codeAny_builtin entry_eq_loop (by
    rw [(Around.under_plainId plain_eq_loop _)]
    exact ih (i + 1) (by omega) (by omega) prog w A R _ ⟨hl,hb,he,h⟩)⟩
  | false =>
   rw [if_neg (by rw [hb']; exact Bool.false_ne_true)] at h
   wp_walk using wpAny_loadPart' hb,wpAny_loadPart' hl
   rw [hu',hz']
   have hri:=fun E Q hq => f2 hb' prog w E Q hq
   wp_walk using hri
   exact h
theorem list_gtAt (h1:us.size=xs.length) (h2:ws.size=ys.length):Meets (Builtin.«list.__gt__» ⟨[.ref l,.ref b],[]⟩)
   (fun A R s => s.heap.get? l=some { cls:=.type "list",dict:=dd,data:=.seq us n,slots:=sl }∧s.heap.get? b=some { cls:=.type "list",dict:=dd2,data:=.seq ws n2,slots:=sl2 } ∧
    GtIts A.in1 s us ws eqf gtf xs ys∧R (.ok (.ret (.bool (lexG eqf gtf xs ys)))) s):=by
 intro prog w A R s h
 obtain ⟨hp,gg,dd',tk,os⟩:=s
 obtain ⟨hl,hb,he,h⟩:=h
 have f3':=AutoSeq1.sub_list_list
 wp_walk using wpAny_loadPart' hb,wpAny_loadPart' hl
 refine ⟨plainId_quiet plain_eq_loop _,codeAny_builtin entry_eq_loop (by
  rw [(Around.under_plainId plain_eq_loop _)]
  exact pqh (eqf:=eqf) (gtf:=gtf) h1 h2 _ 0 rfl (Nat.zero_le _) prog w A R _ ⟨hl,hb,he,by simpa using h⟩)⟩
end
theorem kqu:∀ ns ms:List Int,lexG (fun a b:Int => a == b) (fun a b => decide (b < a)) ns ms=lexLt ms ns
 | [],[] => rfl
 | [],_ :: _ => rfl
 | _ :: _,[] => rfl
 | x :: xs,y :: ys => by
  show (if (x == y)=true then lexG _ _ xs ys else decide (y < x))=if y=x then lexLt ys xs else decide (y < x)
  by_cases e:x=y
  ·rw [if_pos (beq_iff_eq.mpr e),if_pos e.symm,kqu xs ys]
  ·rw [if_neg (fun z => e (beq_iff_eq.mp z)),if_neg (Ne.symm e)]
theorem jqu:∀ {us:List Value}{ns:List Int},IntsAre us ns->∀ {j:Nat}{u:Value}{x:Int},us[j]?=some u->ns[j]?=some x->∃ t,u=.int x t
 | _,_,.nil,j,u,x,h,_ => by simp at h
 | _,_,.cons n t r,0,u,x,h,h' => by simp at h h'; exact ⟨t,by rw [<- h,<- h']⟩
 | _,_,.cons n t r,j + 1,u,x,h,h' => by simp at h h'; exact jqu r h h'
theorem gt_intsAt {A:Around}{s:Shared}{l b:Addr}{us ws:List Value}{n n2:Nat}{ns ms:List Int} (hl:s.heap.get? l=some { cls:=.type "list",data:=.seq us.toArray n }) (hb:s.heap.get? b=some { cls:=.type "list",data:=.seq ws.toArray n2 })
  (hi:IntsAre us ns) (hj:IntsAre ws ms) (hu:A.units < cLine):GtAt A s (.ref l) (.ref b) (lexLt ms ns):=fun prog w E Q h => by
 rw [<- kqu ns ms] at h
 refine richCompare_meets_room (op:=.Gt) ⟨_,hl,rfl⟩ ⟨_,hb,rfl⟩ PySem.F.slot_list_gt PySem.F.entry_list_gt (PySem.F.args_list_gt_2 _ _)
  (list_gtAt (us:=us.toArray) (ws:=ws.toArray) (xs:=ns) (ys:=ms) (by rw [List.size_toArray]; exact hi.length) (by rw [List.size_toArray]; exact hj.length)) ⟨hl,hb,fun j x y u z h1 h2 h3 h4 => ?_,⟨(fun q => nomatch q),h⟩⟩ hu
 obtain ⟨t,rfl⟩:=jqu hi (by simpa using h1) h3
 obtain ⟨t',rfl⟩:=jqu hj (by simpa using h2) h4
 exact ⟨SeqAt.EqAt.int_int x t y t',fun _ => fun prog w E Q hq => PyProof.Rows.gt_int hq⟩
end HT
namespace L2
open PySem PySem.Spec PyProof.Rows
def intsD (l:List Int):PyData:=.list (l.map PyData.int)
theorem IsAll.get {H:Hp}:∀ {ds:List PyData}{vs:List V},IsAll H ds vs->∀ {j:Nat}{d:PyData}{v:V},ds[j]?=some d->vs[j]?=some v->Is H d v
 | _,_,.nil,j,d,v,h,_ => by simp at h
 | _,_,.cons q t,0,d,v,h,h' => by simp at h h'; subst h h'; exact q
 | _,_,.cons q t,j + 1,d,v,h,h' => by simp at h h'; exact IsAll.get t h h'
theorem IsAll.len {H:Hp}:∀ {ds:List PyData}{vs:List V},IsAll H ds vs->ds.length=vs.length
 | _,_,.nil => rfl
 | _,_,.cons q t => by rw [List.length_cons,List.length_cons,IsAll.len t]
theorem oqw {H:Hp}:∀ {l:List Int}{vs:List V},IsAll H (l.map PyData.int) vs->vs=l.map V.int
 | [],_,h => by cases h; rfl
 | x :: l,_,h => by
  rw [List.map_cons] at h
  cases h with
  | cons q t => cases q; rw [oqw t]; rfl
theorem nqU {H:Hp}{l:List Int}{v:V} (h:Is H (intsD l) v):∃ p,v=.ref p∧H p=some (.lst (l.map V.int)):=by
 unfold intsD at h
 cases h with
 | lst hp q => exact ⟨_,rfl,by rw [<- oqw q]; exact hp⟩
theorem hq0:∀ {xs:List V}{us:List Value},Vals xs us->∀ {j:Nat}{u:Value},us[j]?=some u->∃ v,xs[j]?=some v∧RelV v u
 | _,_,.nil,j,u,h => by simp at h
 | _,_,.cons q t,0,u,h => by simp at h; subst h; exact ⟨_,rfl,q⟩
 | _,_,.cons q t,j + 1,u,h => by simp at h; exact hq0 t h
theorem mqF (a b:List Int):PyData.eqv (intsD a) (intsD b)=decide (a=b):=by
 rw [Bool.eq_iff_iff,decide_eq_true_iff]
 unfold intsD
 rw [PyData.eqv]
 induction a generalizing b with
 | nil => cases b <;> simp [PyData.eqvAll]
 | cons x a ih =>
  cases b with
  | nil => simp [PyData.eqvAll]
  | cons y b => simp [PyData.eqvAll,PyData.eqv,ih]
theorem Room.unitsL {k:Nat}{A:Around} (r:Room k A):A.units + 100 < cLine:=by have:=r.un; omega
section
variable {X:Cx}
def rGtLL:R2:=fun x y H Q => ∃ (a b:Addr) (xs ys:List (List Int)) (us ws:List V),x=.ref a∧y=.ref b∧H a=some (.lst us)∧H b=some (.lst ws)∧IsAll H (xs.map intsD) us∧IsAll H (ys.map intsD) ws∧Q (.bl (HT.lexG (fun a b:List Int => decide (a=b)) (fun a b => HT.lexLt b a) xs ys)) H
theorem rqv (hu:X.A.units + 100 < cLine):OpR X (compareOp .Gt) rGtLL:=by
 intro pins s σ H x y v u Q I rx ry h
 obtain ⟨a,b,xs,ys,us,ws,rfl,rfl,ha,hb,hx,hy,q⟩:=h
 cases rx
 cases ry
 obtain ⟨_,its,n,r,hl,e⟩:=I.lstM ha
 obtain ⟨_,its2,n2,r2,hl2,e2⟩:=I.lstM hb
 have l1:=hx.len
 have l2:=hy.len
 rw [List.length_map] at l1 l2
 refine richCompare_meets_room (op:=.Gt) ⟨_,e,rfl⟩ ⟨_,e2,rfl⟩ PySem.F.slot_list_gt PySem.F.entry_list_gt (PySem.F.args_list_gt_2 _ _)
  (HT.list_gtAt (us:=its.toArray) (ws:=its2.toArray) (xs:=xs) (ys:=ys) (by rw [List.size_toArray]; omega) (by rw [List.size_toArray]; omega)) ⟨e,e2,fun j x y u z h1 h2 h3 h4 => ?_,⟨(fun w => nomatch w),⟨.bl _,H,I,rfl,q⟩⟩⟩ (by omega)
 obtain ⟨v1,g1,g2⟩:=hq0 r (by simpa using h1)
 obtain ⟨v2,g3,g4⟩:=hq0 r2 (by simpa using h2)
 have i1:=hx.get (by rw [List.getElem?_map,h3]; rfl) g1
 have i2:=hy.get (by rw [List.getElem?_map,h4]; rfl) g3
 obtain ⟨as,ra⟩:=i1.reads I g2
 obtain ⟨bs,rb⟩:=i2.reads I g4
 obtain ⟨p1,rfl,hp1⟩:=nqU i1
 obtain ⟨p2,rfl,hp2⟩:=nqU i2
 cases g2
 cases g4
 obtain ⟨_,t1,m1,q1,_,e3⟩:=I.lstM hp1
 obtain ⟨_,t2,m2,q2,_,e4⟩:=I.lstM hp2
 have sh:∀ l:List Int,SeqAt.shaped (intsD l)=true:=fun l => Wm.lqE l
 refine ⟨?_,fun _ => HT.gt_intsAt e3 e4 (fqt q1) (fqt q2) (by show X.A.units + 1 < cLine; omega)⟩
 rw [<- mqF]
 refine PySem.SeqAt.eqAt_reads (intsD x) (intsD y) _ s _ _ as bs ra rb (SeqAt.canLay_of_shaped (sh x)) (SeqAt.canLay_of_shaped (sh y)) ?_
 have:=SeqAt.depth_of_shaped (sh x)
 have hm:min (intsD x).depth (intsD y).depth ≤ (intsD x).depth:=Nat.min_le_left _ _
 show X.A.units + 1 + _ < _
 omega
end
section
variable {κ:Type} [DecidableEq κ]
def valV (kvs:List (κ × V)) (k:κ):Option V:=(kvs.find? fun kv => decide (kv.1=k)).map (·.2)
def putK (kvs:List (κ × V)) (k:κ) (v:V):List (κ × V) :=
 if (kvs.any fun kv => decide (kv.1=k))=true then kvs.map (fun kv => if kv.1=k then (kv.1,v) else kv) else kvs ++ [(k,v)]
theorem bqX {p:κ × V}{r:List (κ × V)}{k:κ} (e:p.1=k):valV (p :: r) k=some p.2:=by simp [valV,List.find?_cons,e]
theorem bqW {p:κ × V}{r:List (κ × V)}{k:κ} (e:¬ p.1=k):valV (p :: r) k=valV r k:=by simp [valV,List.find?_cons,e]
theorem jqK (k:κ):∀ kvs:List (κ × V),(kvs.any fun kv => decide (kv.1=k))=(valV kvs k).isSome
 | [] => rfl
 | p :: r => by
  rw [List.any_cons]
  by_cases e:p.1=k
  ·simp only [bqX e,decide_eq_true e,Bool.true_or,Option.isSome_some]
  ·rw [bqW e,decide_eq_false e,Bool.false_or]; exact jqK k r
theorem mqR (k j:κ) (y:V):∀ kvs:List (κ × V),valV (kvs.map fun kv => if kv.1=k then (kv.1,y) else kv) j=(valV kvs j).map fun x => if j=k then y else x
 | [] => rfl
 | p :: r => by
  have ih:=mqR k j y r
  rw [List.map_cons]
  by_cases h:p.1=k
  ·rw [if_pos h]
   by_cases e:p.1=j
   ·rw [bqX (p:=(p.1,y)) e,bqX e,Option.map_some,if_pos (e.symm.trans h)]
   ·rw [bqW (p:=(p.1,y)) e,bqW e,ih]
  ·rw [if_neg h]
   by_cases e:p.1=j
   ·rw [bqX (p:=p) e,bqX e,Option.map_some,if_neg (fun z => h (e.trans z))]
   ·rw [bqW (p:=p) e,bqW e,ih]
theorem lqn (k j:κ) (y:V):∀ kvs:List (κ × V),valV kvs k=none->valV (kvs ++ [(k,y)]) j=if j=k then some y else valV kvs j
 | [],_ => by
  by_cases e:k=j
  ·rw [if_pos e.symm]; exact bqX (p:=(k,y)) e
  ·rw [if_neg (fun z => e z.symm)]; exact bqW (p:=(k,y)) e
 | p :: r,hn => by
  rw [List.cons_append]
  have hk:¬ p.1=k:=fun z => by rw [bqX z] at hn; cases hn
  rw [bqW hk] at hn
  have ih:=lqn k j y r hn
  by_cases e:p.1=j
  ·rw [bqX e,bqX e,if_neg (fun z => hk (e.trans z))]
  ·rw [bqW e,bqW e,ih]
theorem mqo (kvs:List (κ × V)) (k j:κ) (y:V):valV (putK kvs k y) j=if j=k then some y else valV kvs j:=by
 unfold putK
 by_cases a:(kvs.any fun kv => decide (kv.1=k))=true
 ·rw [if_pos a,mqR]
  rw [jqK] at a
  by_cases e:j=k
  ·obtain ⟨x,hx⟩:=Option.isSome_iff_exists.mp a
   rw [if_pos e,e,hx,Option.map_some,if_pos rfl]
  ·rw [if_neg e]
   cases valV kvs j with
   | none => rfl
   | some x => rw [Option.map_some,if_neg e]
 ·rw [if_neg a]
  refine lqn k j y kvs ?_
  rw [jqK] at a
  cases q:valV kvs k with
  | none => rfl
  | some x => rw [q] at a; exact (a rfl).elim
theorem lqR (kvs:List (κ × V)) (k:κ) (v:V):(putK kvs k v).length ≤ kvs.length + 1:=by
 unfold putK
 split
 ·rw [List.length_map]; omega
 ·rw [List.length_append,List.length_cons,List.length_nil]; omega
theorem KV.val {kvs:List (κ × V)}{vs:List (κ × Value)} (r:KV kvs vs) (k:κ):RelO (valV kvs k) (valueAt vs k):=by
 unfold KV at r
 induction r with
 | nil => exact True.intro
 | @cons p q ps qs h t ih =>
  obtain ⟨h1,h2⟩:=h
  by_cases e:p.1=k
  ·have e':q.1=k:=h1.symm.trans e
   have b:valueAt (q :: qs) k=some q.2:=by simp [valueAt,List.find?_cons,e']
   rw [bqX e,b]; exact h2
  ·have e':¬ q.1=k:=fun z => e (h1.trans z)
   have b:valueAt (q :: qs) k=valueAt qs k:=by simp [valueAt,List.find?_cons,e']
   rw [bqW e,b]; exact ih
theorem KV.any {kvs:List (κ × V)}{vs:List (κ × Value)} (r:KV kvs vs) (k:κ):(kvs.any fun kv => decide (kv.1=k))=vs.any fun kv => decide (kv.1=k):=by
 unfold KV at r
 induction r with
 | nil => rfl
 | cons h t ih => rw [List.any_cons,List.any_cons,ih,h.1]
theorem KV.repl {kvs:List (κ × V)}{vs:List (κ × Value)} (r:KV kvs vs) (k:κ) {y:V}{u:Value} (ry:RelV y u) :
  KV (kvs.map fun kv => if kv.1=k then (kv.1,y) else kv) (vs.map fun kv => if kv.1=k then (kv.1,u) else kv):=by
 unfold KV at r ⊢
 induction r with
 | nil => exact .nil
 | @cons p q ps qs h t ih =>
  rw [List.map_cons,List.map_cons]
  refine .cons ?_ ih
  obtain ⟨h1,h2⟩:=h
  by_cases e:p.1=k
  ·rw [if_pos e,if_pos (h1.symm.trans e)]; exact ⟨h1,ry⟩
  ·rw [if_neg e,if_neg (fun z => e (h1.trans z))]; exact ⟨h1,h2⟩
theorem KV.put {kvs:List (κ × V)}{vs:List (κ × Value)} (r:KV kvs vs) (k:κ) {y:V}{u:Value} (ry:RelV y u):KV (putK kvs k y) (stored vs k u):=by
 unfold putK stored
 rw [r.any k]
 by_cases e:(vs.any fun kv => decide (kv.1=k))=true
 ·rw [if_pos e,if_pos e]; exact r.repl k ry
 ·rw [if_neg e,if_neg e]; exact Paired.snoc r ⟨rfl,ry⟩
theorem KV.length {kvs:List (κ × V)}{vs:List (κ × Value)} (r:KV kvs vs):kvs.length=vs.length:=Paired.length r
end
theorem sqE {P:Program}{w:World}{k:Key}{u:Value} (r:RelV (kV k) u):(mixKind P w).is k u=true:=by
 cases k with
 | inl i => obtain ⟨t,e⟩:=(show ∃ t,u=Value.int i t from r); subst e; exact lqM P w i t
 | inr x => obtain ⟨t,e⟩:=(show ∃ t,u=Value.str x t from r); subst e; exact lqY P w x t
theorem kqQ {P:Program}{w:World}:∀ {ks:List Key}{us:List Value},Vals (ks.map kV) us->ItemsAre (mixKind P w) ks us
 | [],_,r => by rw [List.map_nil] at r; cases r; exact .nil
 | k :: ks,_,r => by
  rw [List.map_cons] at r
  cases r with
  | cons h t => exact .cons (sqE h) (kqQ t)
abbrev KT (H:Hp):List (List Key × V)->List (List Key × Addr × Value)->Prop:=Paired fun p q => p.1=q.1∧H q.2.1=some (.tup (p.1.map kV))∧RelV p.2 q.2.2
theorem KT.val {H:Hp}{kvs:List (List Key × V)}{xs:List (List Key × Addr × Value)} (r:KT H kvs xs) (k:List Key):RelO (valV kvs k) ((atKey xs k).map (·.2)):=by
 induction r with
 | nil => exact True.intro
 | @cons p q ps qs h t ih =>
  obtain ⟨h1,_,h2⟩:=h
  by_cases e:p.1=k
  ·have e':q.1=k:=h1.symm.trans e
   have b:atKey (q :: qs) k=some q.2:=by simp [atKey,List.find?_cons,e']
   rw [bqX e,b]; exact h2
  ·have e':¬ q.1=k:=fun z => e (h1.trans z)
   have b:atKey (q :: qs) k=atKey qs k:=by simp [atKey,List.find?_cons,e']
   rw [bqW e,b]; exact ih
section
variable {P:Program}{w:World}{H:Hp}{h:Heap}{a:Addr}
theorem tq0 {u:HO} (ok:HOk P w H h) (e:Rd H a u):ObjOk P w H h a u:=e.ok ok
theorem tqn {kvs:List (Key × V)} (ok:HOk P w H h) (e:Rd H a (.dK kvs)):kvs.length ≤ sizeLine∧(a == sysModules)=false∧∃ vs,KV kvs vs∧h.DictOf (mixKind P w) a vs :=
 show ObjOk P w H h a (.dK kvs) from tq0 ok e
theorem rqj {ks:List Key} (ok:HOk P w H h) (e:H a=some (.tup (ks.map kV))):(tupleKind (mixKind P w)).is h ks a:=by
 obtain ⟨_,its,r,o,h1,h2,n,h3⟩:=(show ObjOk P w H h a (.tup (ks.map kV)) from ok a _ e)
 exact ⟨o,its.toArray,n,h1,h2,h3,by simpa using kqQ r⟩
theorem tqM {kvs:List (List Key × V)} (ok:HOk P w H h) (e:Rd H a (.dT kvs)):kvs.length ≤ sizeLine∧(a == sysModules)=false ∧
  ∃ xs,KT H kvs xs∧h.DictOfH (tupleKind (mixKind P w)) a xs:=by
 obtain ⟨z,y,xs,r,o,es,ep,h1,h2,h3,h4,h5⟩:=(show ObjOk P w H h a (.dT kvs) from tq0 ok e)
 refine ⟨z,y,xs,r,o,es,ep,h1,h2,h3,h4,fun x hx => ?_,h5⟩
 have all:∀ {l:List (List Key × V)}{m:List (List Key × Addr × Value)},KT H l m->∀ x ∈ m,(tupleKind (mixKind P w)).is h x.1 x.2.1:=by
  intro l m q
  induction q with
  | nil => intro x hx; exact nomatch hx
  | @cons p q ps qs hq t ih =>
   intro x hx
   rcases List.mem_cons.mp hx with e | hx
   ·subst e
    exact rqj ok (by rw [<- hq.1]; exact hq.2.1)
   ·exact ih x hx
 exact all r x hx
end
def DGet (H:Hp) (a:Addr) (y:V) (r:Option V):Prop :=
 (∃ kvs k,Rd H a (.dK kvs)∧y=kV k∧r=valV kvs k) ∨ ∃ kvs k b,Rd H a (.dT kvs)∧y=.ref b∧H b=some (.tup (k.map kV))∧r=valV kvs k
def DPut (H:Hp) (a:Addr) (y v:V) (H':Hp):Prop :=
 (∃ kvs k,H a=some (.dK kvs)∧y=kV k∧kvs.length < sizeLine∧H'=upd H a (.dK (putK kvs k v))) ∨
 ∃ kvs k b,H a=some (.dT kvs)∧y=.ref b∧H b=some (.tup (k.map kV))∧kvs.length < sizeLine∧H'=upd H a (.dT (putK kvs k v))
theorem DGet.k {H:Hp}{a:Addr}{kvs:List (Key × V)}{k:Key} (e:H a=some (.dK kvs)):DGet H a (kV k) (valV kvs k):=.inl ⟨kvs,k,.inl e,rfl,rfl⟩
section
variable {X:Cx}{pins:List (Addr × Obj)}{σ:St}{H:Hp}{s:Shared}{a:Addr}{y v:V}{u r:Value}{o:Option V}{A:Around}{E:Value->Shared->Prop}
theorem Inv.big (I:Inv X pins σ H s):sysModules < s.heap.objs.size:=by
 have h:mainGlobals < s.heap.objs.size:=(I.mod.glob.keeps I.bk).lt
 exact Nat.lt_trans (by decide) h
theorem oqi {Q:Value->Shared->Prop} (hu:A.units + 1 < cLine) (I:Inv X pins σ H s) (g:DGet H a y (some v)) (ry:RelV y u) (h:∀ w' s',Inv X pins σ H s'->RelV v w'->Q w' s') :
  wpAny (model X.prog X.w) A (getItem (.ref a) u) Q E s:=by
 rcases g with ⟨kvs,k,e,ey,l⟩ | ⟨kvs,k,b,e,ey,eb,l⟩
 ·subst ey
  obtain ⟨z,hd,vs,rel,dd⟩:=tqn I.hok e
  obtain ⟨w',hw,rw'⟩:=RelO.some_of (v:=v) (o:=valueAt vs k) (by rw [l]; exact rel.val k)
  exact wpAny_getItem_of (sqE ry) dd.mapOf hw (h w' _ (I.tok _) rw')
 ·subst ey
  cases (show u=Value.ref b from ry)
  obtain ⟨z,hd,xs,rel,dd⟩:=tqM I.hok e
  obtain ⟨w',hw,rw'⟩:=RelO.some_of (v:=v) (o:=(atKey xs k).map (·.2)) (by rw [l]; exact rel.val k)
  obtain ⟨p,hp,hp2⟩:=Option.map_eq_some_iff.mp hw
  refine wpAny_getItem_heap (tupleKind_room_in1 hu) (rqj I.hok eb) dd hp ?_
  rw [hp2]
  exact h w' _ (I.tok _) rw'
theorem uqd {P:Program}{w:World}{H':Hp}{h':Heap}{kvs:List (Key × V)}{vs:List (Key × Value)} (z:kvs.length ≤ sizeLine) (hd:(a == sysModules)=false) (rel:KV kvs vs) (dd:h'.DictOf (mixKind P w) a vs) :
  ObjOk P w H' h' a (.dK kvs):=⟨z,hd,vs,rel,dd⟩
end
section
variable {X:Cx}{pins:List (Addr × Obj)}{σ:St}{H:Hp}{s:Shared}{a:Addr}{kvs:List (Key × V)}{k:Key}{u:Value}{A:Around}{E:Value->Shared->Prop}
end
def NoSl (i:Expr):Prop:=∀ ov iv,subscripted i false ov iv=operate [ov,iv] (getItem ov iv)
theorem sq8 {prog:Program}{w:World}{A:Around}{E:Value->Shared->Prop}{s:Shared}{env:Env}{value slice:Expr}{pos:Pos}{T id:String}{Q:Value->Shared->Prop}
  (hl:typeLookup (.type T) "__getitem__" = pure (some (.builtin id))) (hs:NoSl slice)
  (h:wpAny (model prog w) A (eval value env) (fun o s₁ => wpAny (model prog w) A (eval slice env) (fun i s₂ => s₂.TypeIs o T∧wpAny (model prog w) A (getItem o i) Q E s₂) E s₁) E s) :
  wpAny (model prog w) A (eval (.Subscript value slice pos) env) Q E s:=by
 refine Subscript_ (wpAny_mono h (fun o s₁ h₁ => wpAny_mono h₁ (fun i s₂ h₂ => ?_) fun _ _ x => x) fun _ _ x => x)
 obtain ⟨hT,h₂⟩:=h₂
 unfold subscriptTail
 refine wpAny_bind ?_
 rw [getitemInPython_of_ne hT.not_modules]
 refine wpAny_bind (wpAny_specialOf hT hl ?_)
 have fin:wpAny (model prog w) A (subscripted slice false o i) (fun r s₃ => wpAny (model prog w) A (letTemporaryGo value o r >>= fun _ => pure r) Q E s₃) E s₂:=by
  rw [hs o i]
  exact wpAny_operating (wpAny_mono h₂ (fun r s₃ h₃ => wpAny_bind (wpAny_letTemporaryGo (wpAny_pure h₃))) fun _ _ x => x)
 first
  | exact wpAny_pure (wpAny_bind fin)
  | exact wpAny_bind (wpAny_pure (wpAny_bind fin))
  | exact wpAny_bind fin
theorem lqX {X:Cx}{pins:List (Addr × Obj)}{σ:St}{H:Hp}{s:Shared}{a:Addr}{y:V}{o:Option V} (I:Inv X pins σ H s) (g:DGet H a y o):s.TypeIs (.ref a) "dict" := by
 rcases g with ⟨kvs,k,e,_,_⟩ | ⟨kvs,k,b,e,_,_,_⟩
 ·obtain ⟨_,_,vs,_,dd⟩:=tqn I.hok e
  exact dd.typeIs
 ·obtain ⟨_,_,xs,_,dd⟩:=tqM I.hok e
  exact dd.typeIs
def tDGet (td ty:TE):TE:=fun σ H Q => td σ H fun x H1 => ty σ H1 fun y H2 => ∃ a v,x=.ref a∧DGet H2 a y (some v)∧Q v H2
def sDPut (td ty tv:TE):TS:=fun D σ H => tv σ H fun v H1 => td σ H1 fun x H2 => ty σ H2 fun y H3 => ∃ a H4,x=.ref a∧DPut H3 a y v H4∧D.nx σ H4
section
variable {X:Cx}{o i e value:Expr}{pos pos' tpos:Pos}{td ty tv:TE}
theorem lqI (hu:X.A.units + 1 < cLine) (ho:PE X o td) (hi:PE X i ty) (hs:NoSl i):PE X (.Subscript o i pos) (tDGet td ty):=by
 intro pins s σ H Q I h
 refine sq8 PySem.F.slot_dict_getitem.lookup hs (thn (ho pins s σ H _ I h) fun u s1 ⟨x,H1,I1,rx,q1⟩ => thn (hi pins s1 σ H1 _ I1 q1) fun iv s2 W' => ?_)
 obtain ⟨y,H2,I2,ry,a,v,ex,g,q2⟩:=W'
 subst ex
 obtain rfl:u=Value.ref a:=rx
 exact ⟨lqX I2 g,oqi hu I2 g ry fun w' s3 I3 rw' => ⟨v,H2,I3,rw',q2⟩⟩
end
def tDNewK:TE:=fun _ H Q => ∀ p,H p=none->Q (.ref p) (upd H p (.dK []))
section
variable {X:Cx}{pos:Pos}
end
def tPairs:List (TE × TE)->St->Hp->(List (V × V)->Hp->Prop)->Prop
 | [],_,H,Q => Q [] H
 | (tk,tv) :: r,σ,H,Q => tk σ H fun x H1 => tv σ H1 fun y H2 => tPairs r σ H2 fun ps H3 => Q ((x,y) :: ps) H3
def mergeK (kvs more:List (Key × V)):List (Key × V):=more.foldl (fun acc kv => putK acc kv.1 kv.2) kvs
theorem KV.merge:∀ {more:List (Key × V)}{rs:List (Key × Value)}{kvs:List (Key × V)}{vs:List (Key × Value)},KV more rs->KV kvs vs->KV (mergeK kvs more) (merged vs rs):=by
 intro more rs kvs vs r
 unfold KV at r
 induction r generalizing kvs vs with
 | nil => intro q; exact q
 | @cons p q ps qs h t ih =>
  intro r0
  have e:KV (putK kvs p.1 p.2) (stored vs q.1 q.2):=by
   have:=r0.put p.1 h.2
   rw [<- h.1]; exact this
  exact ih e
theorem fqX:∀ (more kvs:List (Key × V)),(mergeK kvs more).length ≤ kvs.length + more.length
 | [],kvs => by show kvs.length ≤ kvs.length + 0; omega
 | p :: r,kvs => by
  have h1:=fqX r (putK kvs p.1 p.2)
  have h2:=lqR kvs p.1 p.2
  show (mergeK (putK kvs p.1 p.2) r).length ≤ _
  rw [List.length_cons]; omega
def tDisp (trs:List (TE × TE)):TE:=fun σ H Q => ∀ p,H p=none->tPairs trs σ (upd H p (.dK [])) fun ps H2 => H2 p=some (.dK [])∧∃ kvs:List (Key × V),ps=kvs.map (fun kv => (kV kv.1,kv.2))∧kvs.length ≤ 15∧Q (.ref p) (upd H2 p (.dK (mergeK [] kvs)))
structure M1 (X:Cx) (o:Expr) (m:Str) (apos:Pos) (e:Expr) (cpos:Pos):Prop where
 base:attributeBase o m X.env (eval o X.env)=eval o X.env
 few:((backTo cpos (starEach [e] X.env)).all (fun x => !x.1) && (backToKw cpos (keywordEach [] X.env)).all (fun x => x.1.isSome)
  && decide (([e]:List Expr).length + ([]:List Keyword).length + (if ([]:List Keyword).isEmpty then 0 else 1) < 30))=true
 line:(apos.endLine == cpos.line)=true
 trees:backTo cpos (starEach [e] X.env)=[(false,eval e X.env)]
structure M2 (X:Cx) (o:Expr) (m:Str) (apos:Pos) (e f:Expr) (cpos:Pos):Prop where
 base:attributeBase o m X.env (eval o X.env)=eval o X.env
 few:((backTo cpos (starEach [e,f] X.env)).all (fun x => !x.1) && (backToKw cpos (keywordEach [] X.env)).all (fun x => x.1.isSome)
  && decide (([e,f]:List Expr).length + ([]:List Keyword).length + (if ([]:List Keyword).isEmpty then 0 else 1) < 30))=true
 line:(apos.endLine == cpos.line)=true
 trees:backTo cpos (starEach [e,f] X.env)=[(false,eval e X.env),(false,eval f X.env)]
def IsD (H:Hp) (a:Addr):Prop:=(∃ kvs,Rd H a (.dK kvs)) ∨ ∃ kvs,Rd H a (.dT kvs)
section
variable {X:Cx}{pins:List (Addr × Obj)}{σ:St}{H:Hp}{s:Shared}{a:Addr}{y d:V}{u r:Value}{o:Option V}{A:Around}{E:Value->Shared->Prop}
end
def tDGet2 (td ty tx:TE):TE:=fun σ H Q => td σ H fun x H1 => ∃ a,x=.ref a∧IsD H1 a∧ty σ H1 fun y H2 => tx σ H2 fun z H3 => ∃ o,DGet H3 a y o∧Q (o.getD z) H3
section
variable {X:Cx}{o e f:Expr}{apos cpos:Pos}{td ty tx:TE}
end
section
variable {X:Cx}{pins:List (Addr × Obj)}{σ:St}{H:Hp}{s:Shared}{a:Addr}{kvs:List (Key × V)}{A:Around}{E:Value->Shared->Prop}
end
section
variable {X:Cx}{pins:List (Addr × Obj)}{σ:St}{H:Hp}{s:Shared}{a:Addr}{y:V}{u:Value}{A:Around}{E:Value->Shared->Prop}
end
end L2
namespace L2
open PySem PyProof.Rows PySem.Spec
theorem Room.units1 {k:Nat}{A:Around} (r:Room k A):A.units + 1 < cLine:=by have:=r.un; omega
section
variable {td ty tv:TE}{σ:St}{H:Hp}{Q:VK}{D:Ends}
theorem rqO:(tDGet td ty σ H Q)=(td σ H fun x H1 => ty σ H1 fun y H2 => ∃ a v,x=.ref a∧DGet H2 a y (some v)∧Q v H2):=rfl
theorem sqT:(sDPut td ty tv D σ H)=(tv σ H fun v H1 => td σ H1 fun x H2 => ty σ H2 fun y H3 => ∃ a H4,x=.ref a∧DPut H3 a y v H4∧D.nx σ H4):=rfl
theorem rqu:(tDNewK σ H Q)=(∀ p,H p=none->Q (.ref p) (upd H p (.dK []))):=rfl
theorem rqs {trs:List (TE × TE)}:(tDisp trs σ H Q)=(∀ p,H p=none->tPairs trs σ (upd H p (.dK [])) fun ps H2 => H2 p=some (.dK [])∧∃ kvs:List (Key × V),ps=kvs.map (fun kv => (kV kv.1,kv.2))∧kvs.length ≤ 15∧Q (.ref p) (upd H2 p (.dK (mergeK [] kvs)))):=rfl
theorem sqC {R:List (V × V)->Hp->Prop}:(tPairs [] σ H R)=(R [] H):=rfl
theorem tqe {tk tv:TE}{r:List (TE × TE)}{R:List (V × V)->Hp->Prop}:(tPairs ((tk,tv) :: r) σ H R)=(tk σ H fun x H1 => tv σ H1 fun y H2 => tPairs r σ H2 fun ps H3 => R ((x,y) :: ps) H3):=rfl
theorem qqo {tx:TE}:(tDGet2 td ty tx σ H Q)=(td σ H fun x H1 => ∃ a,x=.ref a∧IsD H1 a∧ty σ H1 fun y H2 => tx σ H2 fun z H3 => ∃ o,DGet H3 a y o∧Q (o.getD z) H3):=rfl
end
end L2
namespace L2
open PySem
section
variable {K:PySem.W.Frag}{p:Addr}{fv:St}{tt:TT}{te:TE}{Q:VK}{H1:Hp}
theorem lqs {a:Addr}{xs:List V} (t:Nat->Bool) (g:Nat->V) (hxs:SqL K H1 a xs) (hlen:xs.length ≤ sizeLine) (hp:H1 p=none)
  (ht:∀ (i:Nat) (x:V),xs[i]?=some x->∀ (H':Hp) (R:Bool->Hp->Prop),Same H1 H'->(∀ H'',Same H' H''->R (t i) H'')->tt (some x :: fv) H' R)
  (he:∀ (i:Nat) (x:V),xs[i]?=some x->t i=true->∀ (H':Hp) (T:VK),Same H1 H'->(∀ H'',Same H' H''->T (g i) H'')->te (some x :: fv) H' T)
  (hQ:∀ H',Same H1 H'->H' p=some (.lst (((List.range xs.length).filter t).map g))->Q (.ref p) H'):CompI (Itl K a) p fv tt te Q H1:=by
 refine ⟨fun i m ys H2 => m=xs.length - i∧i ≤ xs.length∧ys=((List.range i).filter t).map g∧H2 p=some (.lst ys)∧Same H1 H2,⟨xs.length,by simp,Nat.zero_le _,by simp,aqk,fun b o e => by rw [aqq (aql e hp)]; exact e⟩,?_⟩
 rintro i m ys H2 ⟨rfl,hi,rfl,hp2,sm⟩
 refine ⟨hp2,?_⟩
 have q:=sm.seq hxs
 by_cases hlt:i < xs.length
 ·refine .inr ⟨⟨xs,xs[i],q,by simp [hlt]⟩,?_,fun x H3 y => ?_⟩
  ·rw [List.length_map]
   have:=List.length_filter_le t (List.range i)
   rw [List.length_range] at this
   omega
  ·obtain ⟨rfl,y⟩:=y
   have hc:=y xs q
   refine ht i x hc _ _ sm fun H4 s4 => ?_
   by_cases hf:t i=true
   ·rw [if_pos hf]
    refine he i x hc hf _ _ (sm.trans s4) fun H5 s5 => ⟨(s4.trans s5) _ _ hp2,xs.length - (i + 1),by omega,rfl,hlt,?_,aqk,fun b o e => ?_⟩
    ·rw [List.range_succ,List.filter_append,List.map_append]; simp [hf]
    ·rw [aqq (aql e hp)]; exact (s4.trans s5) _ _ (sm _ _ e)
   ·rw [if_neg hf]
    refine ⟨xs.length - (i + 1),by omega,rfl,hlt,?_,s4 _ _ hp2,sm.trans s4⟩
    rw [List.range_succ,List.filter_append,List.map_append]; simp [hf]
 ·have e:i=xs.length:=by omega
  subst e
  exact .inl ⟨⟨xs,q,Nat.le_refl _⟩,hQ H2 sm hp2⟩
end
end L2
namespace Wm
open PySem L2
abbrev Rw:=List Nat × (List Pc × Bool)
def mrR (a b:Rw):Bool:=moreM a.2.1 b.2.1
theorem kqF {α:Type}{mr:α->α->Bool}:∀ (L:List α) (b e:α),mostM mr b (L ++ [e])=if mr e (mostM mr b L)=true then e else mostM mr b L
 | [],b,e => rfl
 | x :: L,b,e => by
  show mostM mr _ (L ++ [e])=_
  rw [kqF L]
  rfl
theorem jqO {α:Type}{mr:α->α->Bool}:∀ (L:List α) (b:α),mostM mr b L ∈ b :: L
 | [],b => List.mem_singleton.mpr rfl
 | x :: L,b => by
  have:=jqO (mr:=mr) L (if mr x b=true then x else b)
  show mostM mr (if mr x b=true then x else b) L ∈ _
  rcases List.mem_cons.mp this with h | h
  ·rw [h]; split <;> simp
  ·exact List.mem_cons_of_mem _ (List.mem_cons_of_mem _ h)
theorem nqW {T:List Rw}{p:Rw->Bool}{b:Rw}{L:List Rw} (h:T.filter p=b :: L) :
  ∃ pr po,T=pr ++ mostM mrR b L :: po∧p (mostM mrR b L)=true∧(∀ t ∈ pr,p t=true->mrR (mostM mrR b L) t=true∧mrR t (mostM mrR b L)=false)∧∀ t ∈ po,p t=true->mrR t (mostM mrR b L)=false :=
 mq0 (mr:=mrR) (fun _ _ _ => gqy) (fun _ _ _ => mqe) (fun _ _ => nqk) h
def RwAt (H:Hp) (r:Rw) (v:V):Prop:=∃ a p:Addr,v=.ref a∧H a=some (.tup [tV r.1,.ref p])∧PtAt H r.2.1 r.2.2 p
theorem RwAt.mono {H H':Hp}{r:Rw}{v:V} (s:SameT H H'):RwAt H r v->RwAt H' r v:=fun ⟨a,p,e,h1,h2⟩ => ⟨a,p,e,s _ _ h1,h2.mono s⟩
inductive TbV (H:Hp):List Rw->List V->Prop
 | nil:TbV H [] []
 | cons {r:Rw}{v:V}{rs:List Rw}{vs:List V}:RwAt H r v->TbV H rs vs->TbV H (r :: rs) (v :: vs)
theorem TbV.mono {H H':Hp} (s:SameT H H'):∀ {rs:List Rw}{vs:List V},TbV H rs vs->TbV H' rs vs
 | _,_,.nil => .nil
 | _,_,.cons h t => .cons (h.mono s) (TbV.mono s t)
theorem TbV.length {H:Hp}:∀ {rs:List Rw}{vs:List V},TbV H rs vs->vs.length=rs.length
 | _,_,.nil => rfl
 | _,_,.cons h t => by rw [List.length_cons,List.length_cons,TbV.length t]
theorem TbV.get {H:Hp}:∀ {rs:List Rw}{vs:List V},TbV H rs vs->∀ {i:Nat}{v:V},vs[i]?=some v->∃ r,rs[i]?=some r∧RwAt H r v
 | _,_,.nil,i,v,e => by simp at e
 | _,_,.cons h t,0,v,e => by cases e; exact ⟨_,rfl,h⟩
 | _,_,.cons h t,i + 1,v,e => by simp only [List.getElem?_cons_succ] at e ⊢; exact t.get e
theorem TbV.append {H:Hp}{ss:List Rw}{ws:List V} (h2:TbV H ss ws):∀ {rs:List Rw}{vs:List V},TbV H rs vs->TbV H (rs ++ ss) (vs ++ ws)
 | _,_,.nil => h2
 | _,_,.cons h t => .cons h (TbV.append h2 t)
theorem TbV.drop {H:Hp}:∀ {rs:List Rw}{vs:List V},TbV H rs vs->∀ n:Nat,TbV H (rs.drop n) (vs.drop n)
 | _,_,.nil,n => by simp; exact .nil
 | _,_,.cons h t,0 => .cons h t
 | _,_,.cons h t,n + 1 => by rw [List.drop_succ_cons,List.drop_succ_cons]; exact TbV.drop t n
theorem TbV.pick {H:Hp}{f:Rw->Bool}:∀ {rs:List Rw}{vs:List V},TbV H rs vs->TbV H (rs.filter f) (((List.range vs.length).filter fun i => match rs[i]? with | some r => f r | none => false).map fun i => vs[i]?.getD .non):=by
 intro rs vs h
 induction h with
 | nil => exact .nil
 | @cons r v rs vs h t ih =>
  have e:(List.range (v :: vs).length).filter (fun i => match (r :: rs)[i]? with | some r => f r | none => false)=(if f r=true then [0] else []) ++ ((List.range vs.length).filter fun i => match rs[i]? with | some r => f r | none => false).map (· + 1):=by
   rw [List.length_cons,List.range_succ_eq_map,List.filter_cons,List.filter_map]
   simp only [List.getElem?_cons_zero]
   split <;> rename_i hh <;> simp [hh,Function.comp_def]
  rw [e,List.map_append,List.map_map,List.filter_cons]
  have tl:(((List.range vs.length).filter fun i => match rs[i]? with | some r => f r | none => false).map ((fun i => (v :: vs)[i]?.getD .non) ∘ (· + 1)))=(((List.range vs.length).filter fun i => match rs[i]? with | some r => f r | none => false).map fun i => vs[i]?.getD .non):=by
   apply List.map_congr_left
   intro i _
   simp
  rw [tl]
  split
  ·exact .cons h ih
  ·exact ih
end Wm
namespace PySem
theorem pqr:typeLookup (.type "list") (Str.ofString "keys")=pure none:=by rw [typeLookup_type,builtinLookup_eq_fast]; kernel_rfl
theorem sqA {prog:Program}{w:World}{A:Around}{E:Value->Shared->Prop}{s:Shared}{a:Addr}{xs:Array Value}{k:Nat}{sl:Array (Option Value)}{Q:Option Value->Shared->Prop}
  (ha:s.heap.get? a=some ⟨.type "list",none,.seq xs k,sl⟩) (hA:A.handled=none)
  (h:∀ (h':Heap) (n:Nat) (e:Addr),Heap.NewExcOf s.heap h' e "AttributeError" -> Q none { s with heap:=h',toks:=n }) :
  wpAny (model prog w) A (getAttr? (.ref a) (Str.ofString "keys")) Q E s:=by
 obtain ⟨hp,gg,dd,tk,os⟩:=s
 have ty:∀ n,(⟨hp,gg,dd,n,os⟩:Shared).TypeIs (.ref a) "list" := fun _ => ⟨_,ha,rfl⟩
 have g1:=sub_AttributeError
 have g2:=F.slot_list_getattribute.lookup
 have g3:=F.slot_list_getattribute.bind (.ref a)
 have g4:=am_list_getattr_none
 unfold getAttr?; unfold getAttrBy? getAttrBy
 repeat (any_goals (first | assumption | exact ty _ | ((with_reducible show wpAny _ _ (call (Value.builtin "list.__getattribute__") _ _) _ _ _); refine call_meets F.slot_list_getattribute (ty _) am_entry_list_getattribute (F.args_list_getattribute_2 _ _) (meets_getattribute_miss_list a xs k sl _ _ pqr (by decide) (by show 4 + 100 ≤ sizeLine; decide)) ⟨ha,hA,fun h' n e he => ?_⟩) | wp_step))
 obtain ⟨t',u',ht⟩:=he.there
 show wpAny _ _ (getattributeRaised _ _ _ _ _ _ _) _ _ _; unfold getattributeRaised
 repeat (any_goals first | assumption | wp_step)
 exact h _ _ _ he.of
theorem gqx:plainId "dict.update.loop" = true:=by decide +kernel
theorem kqG:entryFor table "dict.update.loop" = some Builtin.«dict.update.loop»:=entryFor_of_tree (by kernel_rfl)
section
variable {prog:Program}{w:World}{K:Type} [DecidableEq K] {knd:KeyKind prog w K}{A:Around}{R:Result->Shared->Prop}{h0:Heap}{d it l:Addr}{items:Array Value}{ps:List (K × Value)}
def PrsAt (knd:KeyKind prog w K) (h:Heap) (items:Array Value) (ps:List (K × Value)):Prop:=items.size=ps.length∧∀ (i:Nat) (x:Value),items[i]?=some x->∃ (a:Addr) (o:Obj) (n:Nat) (kv:K × Value) (key:Value),x=.ref a∧ps[i]?=some kv∧knd.is kv.1 key=true∧h.get? a=some o∧o.cls=.type "tuple" ∧ o.data=.seq #[key,kv.2] n
theorem pqU (hd0:h0.get? d=none) (hi0:h0.get? it=none) (hdi:d ≠ it) (hl:h0.IsList l items) (hp:PrsAt knd h0 items ps) (hsz:ps.length ≤ sizeLine) (hh:A.in1.handled=none) :
  ∀ (k i:Nat) (s:Shared),items.size - i=k->i ≤ items.size->(∀ b o,h0.get? b=some o->s.heap.get? b=some o)->s.heap.IsListIter it l i->s.heap.DictOf knd d (merged [] (ps.take i)) ->
  (∀ (h':Heap) (n:Nat),(∀ b o,h0.get? b=some o->h'.get? b=some o)->h'.DictOf knd d (merged [] ps)->R (.ok (.ret .none)) { s with heap:=h',toks:=n }) ->
  codeAny (model prog w) A (.builtin "dict.update.loop" ⟨[.ref d,.ref it,rawInt i,.none],[]⟩) R s:=by
 intro k
 induction k with
 | zero =>
  intro i s hk hi sm hit hd hR
  have hin:i=items.size:=Nat.le_antisymm hi (by omega)
  obtain ⟨o,ho,r⟩:=hl
  refine codeAny_builtin kqG ?_
  rw [Around.under_plainId gqx _]
  show wpAny _ A.in1 (pyNext (.ref it) >>= _) _ _ s
  refine wpAny_bind (wpAny_pyNext_list_end hh hit ⟨o,sm _ _ ho,r⟩ (by rw [hin]; simp) fun h' he => ?_)
  show wpAny _ A.in1 (Builtin.Dict.addKeywords d [] >>= _) _ _ _
  refine wpAny_bind (wpAny_pure (wpAny_pure ?_)); rw [hin,hp.1,List.take_length] at hd
  refine hR h' s.toks (fun b o e => he b o (fun z => by rw [z,hi0] at e; cases e) (sm b o e)) ?_
  obtain ⟨o,es,ep,h1,h2⟩:=hd
  exact ⟨o,es,ep,he d o hdi h1,h2⟩
 | succ k ih =>
  intro i s hk hi sm hit hd hR
  have hlt:i < items.size:=Nat.lt_of_sub_pos (by omega)
  obtain ⟨a,o,n,kv,key,hx,hkv,hkey,ha,hc,hda⟩:=hp.2 i items[i] (Array.getElem?_eq_getElem hlt)
  obtain ⟨ol,hol,rl⟩:=id hl
  refine codeAny_builtin kqG ?_
  rw [Around.under_plainId gqx _]
  show wpAny _ A.in1 (pyNext (.ref it) >>= _) _ _ s
  refine wpAny_bind (wpAny_pyNext_list_item hit ⟨ol,sm _ _ hol,rl⟩ (x:=.ref a) (by rw [Array.getElem?_eq_getElem hlt,hx]) fun h1 hit1 hs1 => ?_)
  have sm1:∀ b o,h0.get? b=some o->h1.get? b=some o:=fun b o e => by
   rw [hs1.2 b (fun z => by rw [z,hi0] at e; cases e)]
   exact sm b o e
  have hd1:h1.DictOf knd d (merged [] (ps.take i)):=by
   obtain ⟨o,es,ep,e1,e2⟩:=hd
   exact ⟨o,es,ep,by rw [hs1.2 d hdi]; exact e1,e2⟩
  have hml:=merged_length_le ([]:List (K × Value)) (ps.take i)
  rw [List.length_take,List.length_nil] at hml
  refine wpAny_bind (wpAny_holding (wpAny_bind (wpAny_tryCatch ?_)))
  unfold Builtin.Dict.pairItems
  refine wpAny_bind (wpAny_typeOf (T := "tuple") ⟨o,sm1 _ _ ha,hc⟩ ?_)
  rw [if_pos (by decide)]
  refine wpAny_bind (wpAny_seqItems (sm1 _ _ ha) hda (wpAny_pure ?_))
  show wpAny _ A.in1 (holding [key,kv.2] (dictSet d key kv.2)) _ _ _
  refine wpAny_holding (wpAny_dictSet_pairs hkey hd1 (fun h2 hd2 hs2 => ?_) (by omega))
  have sm2:∀ b o,h0.get? b=some o->h2.get? b=some o:=fun b o e => by
   rw [hs2.2 b (fun z => by rw [z,hd0] at e; cases e)]
   exact sm1 b o e
  have hit2:h2.IsListIter it l (i + 1):=by
   obtain ⟨o,e1,e2⟩:=hit1
   exact ⟨o,by rw [hs2.2 it (Ne.symm hdi)]; exact e1,e2⟩
  refine wpAny_pure ⟨plainId_quiet gqx _,?_⟩
  have:=ih (i + 1) { s with heap:=h2,toks:=s.toks + 1 } (by omega) (by omega) sm2 hit2 (by rw [merged_take_succ _ _ _ _ hkv]; exact hd2) (fun h' n e1 e2 => hR h' n e1 e2)
  exact this
end
section
variable {prog:Program}{w:World}{K:Type} [DecidableEq K] {knd:KeyKind prog w K}{A:Around}{E:Value->Shared->Prop}{s:Shared}{l:Addr}{items:Array Value}{ps:List (K × Value)}{c:Nat}{sl:Array (Option Value)}{Q:Value->Shared->Prop}
theorem mqZ (hl:s.heap.get? l=some ⟨.type "list",none,.seq items c,sl⟩) (hp:PrsAt knd s.heap items ps) (hsz:ps.length ≤ sizeLine) (hA:A.handled=none)
  (h:∀ (h':Heap) (n:Nat),(∀ b o,s.heap.get? b=some o->h'.get? b=some o)->h'.DictOf knd s.heap.objs.size (merged [] ps)->Q (.ref s.heap.objs.size) { s with heap:=h',toks:=n }) :
  wpAny (model prog w) A (call (.type "dict") [.ref l]) Q E s:=by
 refine callType_codes (Q₁:=fun x s₁ => x=.ref s.heap.objs.size∧s₁={ s with heap:=s.heap.push { cls:=.type "dict",data:=.dict #[] } }) F.kt_called_dict (F.kt_typeCall_dict_1 _) F.entry_dict_init (kt_code_dict_new _ ⟨rfl,rfl⟩) ?_
 rintro x s₁ ⟨rfl,rfl⟩
 have nw:(s.heap.push { cls:=.type "dict",data:=.dict #[] }).DictOf knd s.heap.objs.size []:=Heap.DictOf.new s.heap
 have sm0:∀ b o,s.heap.get? b=some o->(s.heap.push { cls:=.type "dict",data:=.dict #[] }).get? b=some o:=fun b o e => Heap.get?_push_of_some _ e
 refine ⟨nw.typeIs,F.args_dict_init_2 _ _,?_⟩
 unfold Builtin.«dict.__init__»; refine wpAny_bind ?_
 unfold Builtin.Dict.selfAndRest; skip
 refine wpAny_bind (wpAny_notOrdered_dict nw.typeIs ?_)
 show wpAny _ _ (pure (s.heap.objs.size,[Value.ref l])) _ _ _
 refine wpAny_pure ?_
 show wpAny _ _ (Builtin.Dict.updateFrom "dict.__init__" s.heap.objs.size (.ref l) [] .none) _ _ _
 unfold Builtin.Dict.updateFrom; refine wpAny_bind (wpAny_typeOf (T := "list") ⟨_,sm0 _ _ hl,rfl⟩ ?_)
 rw [if_pos (by decide)]
 refine wpAny_bind (sqA (sm0 _ _ hl) hA fun h1 n1 e1 he1 => ?_)
 show wpAny _ _ (rule _ >>= _) _ _ _
 refine wpAny_bind (wpAny_rule (wpAny_bind ?_))
 have sm1:∀ b o,s.heap.get? b=some o->h1.get? b=some o:=fun b o e => he1.keeps b o (sm0 b o e)
 obtain ⟨o,es,ep,g1,g2⟩:=nw
 have g1':=he1.keeps _ _ g1
 have hlt:s.heap.objs.size < h1.objs.size:=Heap.lt_size g1'
 have out:∀ b,s.heap.objs.size ≤ b->s.heap.get? b=none:=fun b hb => by
  cases e:s.heap.get? b with
  | none => rfl
  | some o => exact absurd (Heap.lt_size e) (Nat.not_lt.mpr hb)
 refine wpAny_pyIter_list (items:=items) ⟨_,sm1 _ _ hl,rfl,c,rfl⟩ ?_
 refine wpAny_pure ⟨plainId_quiet gqx _,?_⟩
 have:=@pqU prog w K _ knd A.in1 (wants (fun r s₂ => r=Value.none∧Q (Value.ref s.heap.objs.size) s₂) E) s.heap s.heap.objs.size h1.objs.size l items ps (out _ (Nat.le_refl _)) (out _ (Nat.le_of_lt hlt)) (Nat.ne_of_lt hlt) ⟨_,hl,rfl,c,rfl⟩ hp hsz hA items.size 0
  { s with heap:=h1.push { cls:=.type "list_iterator",data:=.fields #[.ref l,.int 0 0] },toks:=n1 } rfl (Nat.zero_le _) (fun b o e => Heap.get?_push_of_some _ (sm1 b o e)) ⟨_,Heap.get?_push_size _ rfl,rfl,rfl⟩ ⟨o,es,ep,Heap.get?_push_of_some _ g1',g2⟩ (fun h' n e1 e2 => ⟨rfl,h h' n e1 e2⟩)
 exact this
end
end PySem
namespace L2
open PySem PySem.Spec PyProof.Rows
section
variable {X:Cx}{pins:List (Addr × Obj)}{σ:St}{H:Hp}{s:Shared}
theorem uqz (I:Inv X pins σ H s):∀ {us:List V}{its:List Value}{kvs:List (Key × V)},Vals us its->us.length=kvs.length->(∀ (i:Nat) (u:V),us[i]?=some u->∃ (a:Addr) (kv:Key × V),u=.ref a∧kvs[i]?=some kv∧H a=some (.tup [kV kv.1,kv.2])) ->
  ∃ ps:List (Key × Value),KV kvs ps∧its.length=ps.length∧∀ (i:Nat) (x:Value),its[i]?=some x->∃ (a:Addr) (o:Obj) (n:Nat) (kv:Key × Value) (key:Value),x=.ref a∧ps[i]?=some kv∧(mixKind X.prog X.w).is kv.1 key=true∧s.heap.get? a=some o∧o.cls=.type "tuple" ∧ o.data=.seq #[key,kv.2] n:=by
 intro us its kvs r
 induction r generalizing kvs with
 | nil =>
  intro hl hp
  cases kvs with
  | nil => exact ⟨[],.nil,rfl,fun i x h => by simp at h⟩
  | cons a b => simp at hl
 | cons r rs ih =>
  intro hl hp
  cases kvs with
  | nil => simp at hl
  | cons kv kvs =>
   obtain ⟨a,kv',e,hk,ha⟩:=hp 0 _ rfl
   subst e
   cases hk
   cases r
   obtain ⟨z,its2,rv,o,g1,g2,n,g3⟩:=I.hok a _ ha
   cases rv with
   | cons r1 rv =>
    cases rv with
    | cons r2 rv =>
     cases rv
     obtain ⟨ps,h1,h2,h3⟩:=ih (by simpa using hl) fun i u hu => hp (i + 1) u (by simpa using hu)
     refine ⟨(kv.1,_) :: ps,.cons ⟨rfl,r2⟩ h1,by simp [h2],fun i x hx => ?_⟩
     cases i with
     | zero => cases hx; exact ⟨a,o,n,_,_,rfl,rfl,sqE r1,g1,g2,g3⟩
     | succ i => exact h3 i x (by simpa using hx)
def rDictL:List V->Hp->VK->Prop:=fun xs H Q => ∃ (l:Addr) (us:List V) (kvs:List (Key × V)),xs=[.ref l]∧H l=some (.lst us)∧us.length=kvs.length∧kvs.length ≤ 1000 ∧
 (∀ (i:Nat) (u:V),us[i]?=some u->∃ (a:Addr) (kv:Key × V),u=.ref a∧kvs[i]?=some kv∧H a=some (.tup [kV kv.1,kv.2]))∧∀ p,H p=none->Q (.ref p) (upd H p (.dK (mergeK [] kvs)))
theorem nqc (hc:X.calm=true):CallR X (.type "dict") rDictL:=by
 intro pins s σ H xs us Q I rv h
 obtain ⟨l,vs,kvs,rfl,hl,hlen,hz,hp,q⟩:=h
 obtain ⟨u,rfl,r1⟩:=vals1 rv
 cases r1
 obtain ⟨z,its,n,r,e⟩:=I.hok l _ hl
 obtain ⟨ps,k1,k2,k3⟩:=uqz I r hlen hp
 have hml:=fqX kvs []
 have kl:=k1.length
 refine mqZ (knd:=mixKind X.prog X.w) (ps:=ps) e ⟨by rw [List.size_toArray]; exact k2,fun i x hx => k3 i x (by simpa using hx)⟩ (by rw [<- kl]; exact Nat.le_trans hz (by decide)) (I.ok.hd hc) fun h' t' sm dd => ?_
 have hf:=I.hok.fresh (Nat.le_refl s.heap.objs.size)
 exact ⟨.ref s.heap.objs.size,_,I.laid (a:=s.heap.objs.size) (o:=.dK (mergeK [] kvs)) (t':=t') sm (Nat.le_refl _) (uqd (by rw [List.length_nil] at hml; exact Nat.le_trans hml (Nat.le_trans (by omega) (show 1000 ≤ sizeLine by decide))) (beq_eq_false_iff_ne.mpr (Ne.symm (Nat.ne_of_lt I.big))) (k1.merge .nil) dd),rfl,q _ hf⟩
end
theorem sqL:bootBuiltins "dict" = some (.type "dict"):=by decide +kernel
theorem lqj:∀ (more acc:List (Key × V)) (k:Key),k ∉ more.map (·.1)->valV (mergeK acc more) k=valV acc k
 | [],acc,k,_ => rfl
 | p :: r,acc,k,h => by
  have h1:=lqj r (putK acc p.1 p.2) k fun z => h (List.mem_cons_of_mem _ z)
  refine (show valV (mergeK (putK acc p.1 p.2) r) k=valV acc k from ?_)
  rw [h1,mqo,if_neg fun z => h (by rw [z]; exact List.mem_cons_self ..)]
theorem kqW:∀ (more acc:List (Key × V)) (k:Key) (v:V),(more.map (·.1)).Nodup->(k,v) ∈ more->valV (mergeK acc more) k=some v
 | [],acc,k,v,_,h => by cases h
 | p :: r,acc,k,v,hn,h => by
  rw [List.map_cons] at hn; rw [List.nodup_cons] at hn
  refine (show valV (mergeK (putK acc p.1 p.2) r) k=some v from ?_)
  rcases List.mem_cons.mp h with z | z
  ·subst z
   rw [lqj r _ _ hn.1,mqo,if_pos rfl]
  ·exact kqW r _ k v hn.2 z
end L2
namespace Wm
open PySem L2
def GvOk (c:Pc) (x:Vl):Prop:=match c with
 | .part h _ t => ∃ s:List Nat,x=.txt s∧s ≠ []∧(∀ z ∈ s,isSg z=true)∧s.length ≤ 400∧isDot (h ++ s ++ t)=false
 | .num _ => ∃ n:Int,x=.int n∧0 ≤ n∧n < 10 ^ 60
 | .word _ => ∃ s:List Nat,x=.txt s∧s.all isSma=true∧1 ≤ s.length∧s.length ≤ 60
 | .gap _ => ∃ s:List Nat,x=.txt s∧SgT s∧s.length ≤ 400∧isDot s=false
 | .rest _ => ∃ ls:List (List Nat),x=.lst ls∧ls ≠ []∧ls.length ≤ 50∧∀ s ∈ ls,SgT s∧s.length ≤ 400∧isDot s=false
 | .step _ => False
inductive GvA:List Pc->List (List Nat × Vl)->Prop
 | nil:GvA [] []
 | step {w:List Nat}{cs:List Pc}{bs:List (List Nat × Vl)}:GvA cs bs->GvA (.step w :: cs) bs
 | gap {c:Pc}{x:Vl}{cs:List Pc}{bs:List (List Nat × Vl)}:c.isStep=false->GvOk c x->GvA cs bs->GvA (c :: cs) ((c.name,x) :: bs)
def stM (c:Pc) (x:Vl):List (List Nat):=match x with
 | .txt s => [c.head ++ s ++ c.tail]
 | .int n => [dg n]
 | .lst ls => ls
def stpsM:List Pc->List (List Nat × Vl)->List (List Nat)
 | [],_ => []
 | .step w :: cs,bs => w :: stpsM cs bs
 | c :: cs,b :: bs => stM c b.2 ++ stpsM cs bs
 | _ :: _,[] => []
theorem dqb {c:Pc}{cs:List Pc}{b:List Nat × Vl}{bs:List (List Nat × Vl)} (h:c.isStep=false):stpsM (c :: cs) (b :: bs)=stM c b.2 ++ stpsM cs bs:=by
 cases c with
 | step w => cases h
 | _ => rfl
theorem pqA (h t s:List Nat):amid h t (h ++ s ++ t)=s:=by
 unfold amid
 rw [List.append_assoc,List.drop_left]
 have:(h ++ (s ++ t)).length - t.length - h.length=s.length:=by simp only [List.length_append]; omega
 rw [this,List.take_left]
theorem pqW (n:Nat):valD ((Nat.toDigits 10 n).map Char.toNat)=n:=by
 induction n using Nat.strongRecOn with
 | ind n ih =>
  by_cases h:n < 10
  ·rw [Nat.toDigits_of_lt_base (by omega)]
   have:∀ d,d < 10->valD ([Nat.digitChar d].map Char.toNat)=d:=by decide
   exact this n h
  ·rw [Nat.toDigits_of_base_le (by decide) (by omega),List.map_append]
   show valD (_ ++ [(Nat.digitChar (n % 10)).toNat])=n
   have:∀ d,d < 10->(Nat.digitChar d).toNat - 48=d:=by decide
   rw [eqH,ih (n / 10) (by omega),this (n % 10) (Nat.mod_lt _ (by decide))]
   omega
theorem tqz (n:Nat):dg (n:Int)=(Nat.toDigits 10 n).map Char.toNat:=by unfold dg; rw [PySem.W.KIN.signs_num]
theorem lq7 {s:List Nat} (h:∀ c ∈ s,c ≠ 46):isDot s=false:=by
 cases hd:isDot s with
 | false => rfl
 | true =>
  exfalso
  cases s with
  | nil => exact absurd hd (by decide)
  | cons c r =>
   have hc:=h c (List.mem_cons_self ..)
   unfold isDot at hd
   simp [sStay,sUp] at hd
   omega
theorem qq8 {c:Pc}{x:Vl} (ok:PcOk c) (hs:c.isStep=false) (hr:c.isRest=false) (h:GvOk c x):∃ s,stM c x=[s]∧fitsM c s=true∧(∀ r,bvM c (s :: r)=x)∧SgT s∧s.length ≤ 600:=by
 cases c with
 | step w => cases hs
 | rest n => cases hr
 | part a n t =>
  obtain ⟨s,rfl,h1,h2,h3,h4⟩:=h
  obtain ⟨o1,o2,o3,o4,_⟩:=ok
  refine ⟨a ++ s ++ t,rfl,?_,fun r => ?_,⟨by simp [h1],fun z hz => ?_⟩,by simp only [List.length_append]; omega⟩
  ·show (!isDot (a ++ s ++ t) && partB a t (a ++ s ++ t))=true
   rw [h4,oqs a t s (List.length_pos_iff.mpr h1)]
   rfl
  ·show Vl.txt (amid a t (a ++ s ++ t))=_
   rw [pqA]
  ·rcases List.mem_append.mp hz with y | y
   ·rcases List.mem_append.mp y with y | y
    ·exact o3 z y
    ·exact h2 z y
   ·exact o4 z y
 | num nm =>
  obtain ⟨n,rfl,h0,h1⟩:=h
  obtain ⟨k,rfl⟩:=Int.eq_ofNat_of_zero_le h0
  have hn:numB (dg (k:Int))=true:=tqW (by omega)
  have hf:=rqb (i:=(k:Int)) h0
  have nd:isDot (dg (k:Int))=false:=lq7 fun c hc z => by have:=hf c hc; omega
  have ht:fitsM (.num nm) (dg (k:Int))=true:=by
   show (!isDot (dg (k:Int)) && numB (dg (k:Int)))=true
   rw [hn,nd]
   rfl
  obtain ⟨b1,b2,b3⟩:=jqU ht
  refine ⟨dg (k:Int),rfl,ht,fun r => ?_,⟨List.length_pos_iff.mp b1,fun c hc => tqE (hf c hc)⟩,by omega⟩
  show Vl.int (intOf (dg (k:Int)))=_
  rw [kqz b3 b1 b2,tqz,pqW]
 | word n =>
  obtain ⟨s,rfl,h1,h2,h3⟩:=h
  have hs:=List.all_eq_true.mp h1
  refine ⟨s,by show [[] ++ s ++ []]=[s]; simp,?_,fun r => ?_,⟨List.length_pos_iff.mp h2,mqx h1⟩,by omega⟩
  ·show (!isDot s && wordB s)=true
   rw [lq7 fun c hc z => by have:=hs c hc; rw [z] at this; cases this]
   unfold wordB
   rw [h1,decide_eq_true h2,decide_eq_true h3]
   rfl
  ·show Vl.txt (amid [] [] s)=_
   rw [cq9]
 | gap n =>
  obtain ⟨s,rfl,h1,h2,h3⟩:=h
  refine ⟨s,by show [[] ++ s ++ []]=[s]; simp,?_,fun r => ?_,h1,by omega⟩
  ·show (!isDot s && true)=true
   rw [h3]
   rfl
  ·show Vl.txt (amid [] [] s)=_
   rw [cq9]
structure GvS (cs:List Pc) (bs:List (List Nat × Vl)) (ss:List (List Nat)):Prop where
 bnd:boundM cs ss=bs
 fit:∀ (i:Nat) (s:List Nat),ss[i]?=some s->∃ c,cs[min i (cs.length - 1)]?=some c∧fitsM c s=true
 len:(∀ c ∈ cs,c.isRest=false)->ss.length=cs.length
 le:cs.length ≤ ss.length
 sg:∀ s ∈ ss,SgT s∧s.length ≤ 600
 mx:ss.length ≤ cs.length + 49
theorem GvS.cons {c:Pc}{cs:List Pc}{bs b:List (List Nat × Vl)}{s:List Nat}{ss:List (List Nat)} (h:GvS cs bs ss) (hf:fitsM c s=true) (hg:SgT s∧s.length ≤ 600) (hb:(if c.isStep then [] else [(c.name,bvM c (s :: ss))])=b):GvS (c :: cs) (b ++ bs) (s :: ss):=by
 refine ⟨?_,fun i t ht => ?_,fun hr => ?_,?_,fun t ht => ?_,?_⟩
 ·show (if c.isStep then [] else [(c.name,bvM c (s :: ss))]) ++ boundM cs ss=_
  rw [hb,h.bnd]
 ·cases i with
  | zero => cases ht; exact ⟨c,by rw [Nat.zero_min]; rfl,hf⟩
  | succ i =>
   obtain ⟨d,h1,h2⟩:=h.fit i t (by simpa using ht)
   have hp:=(List.getElem?_eq_some_iff.mp h1).1
   refine ⟨d,?_,h2⟩
   rw [List.length_cons,show min (i + 1) (cs.length + 1 - 1)=min i (cs.length - 1) + 1 by omega]
   exact h1
 ·rw [List.length_cons,List.length_cons,h.len fun d hd => hr d (List.mem_cons_of_mem _ hd)]
 ·rw [List.length_cons,List.length_cons]; have:=h.le; omega
 ·rcases List.mem_cons.mp ht with z | z
  ·rw [z]; exact hg
  ·exact h.sg t z
 ·rw [List.length_cons,List.length_cons]; have:=h.mx; omega
theorem kq5 {cs:List Pc}{bs:List (List Nat × Vl)} (h:GvA cs bs):(∀ c ∈ cs,PcOk c)->LastR cs->GvS cs bs (stpsM cs bs):=by
 induction h with
 | nil => exact fun _ _ => ⟨rfl,(fun i s h => by simp [stpsM] at h),fun _ => rfl,Nat.le_refl _,(fun s hs => by cases hs),Nat.zero_le _⟩
 | @step w cs bs _ ih =>
  intro ok l
  have ih:=ih (fun c hc => ok c (List.mem_cons_of_mem _ hc)) fun i c hc hr => by have:=l (i + 1) c hc hr; rw [List.length_cons] at this; omega
  obtain ⟨o1,o2,o3,o4⟩:=ok _ (List.mem_cons_self ..)
  exact ih.cons (c:=.step w) (b:=[]) (by show (!isDot w && decide (w=w))=true; rw [o4,decide_eq_true rfl]; rfl) ⟨⟨List.length_pos_iff.mp o1,o3⟩,by omega⟩ rfl
 | @gap c x cs bs hst hg _ ih =>
  intro ok l
  have ih:=ih (fun c hc => ok c (List.mem_cons_of_mem _ hc)) fun i c hc hr => by have:=l (i + 1) c hc hr; rw [List.length_cons] at this; omega
  rw [dqb hst]
  cases hr:c.isRest with
  | false =>
   obtain ⟨s,e,hf,hb,hsg⟩:=qq8 (ok c (List.mem_cons_self ..)) hst hr hg
   rw [e]
   exact ih.cons (b:=[(c.name,x)]) hf hsg (by rw [hst,hb]; rfl)
  | true =>
   have hn:cs=[]:=List.length_eq_zero_iff.mp (by have:=l 0 c rfl hr; rw [List.length_cons] at this; omega)
   subst hn
   have hbs:bs=[]:=by have:=ih.bnd; exact this.symm
   subst hbs
   cases c with
   | rest n =>
    obtain ⟨ls,rfl,h1,h2,h3⟩:=hg
    show GvS [.rest n] [(n,.lst ls)] (ls ++ [])
    rw [List.append_nil]
    have hp:=List.length_pos_iff.mpr h1
    refine ⟨rfl,fun i s hs => ⟨.rest n,by rw [show min i ([Pc.rest n].length - 1)=0 by simp]; rfl,?_⟩,fun z => ?_,by simp; omega,fun s hs => ⟨(h3 s hs).1,by have:=(h3 s hs).2.1; omega⟩,by simp; omega⟩
    ·show (!isDot s && true)=true
     rw [(h3 s (List.mem_of_getElem? hs)).2.2]
     rfl
    ·have:=z (.rest n) (List.mem_singleton.mpr rfl)
     cases this
   | _ => cases hr
theorem oqg {cs:List Pc}{bs:List (List Nat × Vl)} (h:GvA cs bs) (ok:∀ c ∈ cs,PcOk c) (l:LastR cs) (e:Bool):fitsP cs e true (stpsM cs bs) e=true:=by
 have g:=kq5 h ok l
 obtain ⟨ms,hm⟩:=lqV (ds:=cs) (n:=(stpsM cs bs).length) (by
  cases hr:hasRest cs with
  | true => exact .inl ⟨rfl,g.le⟩
  | false =>
   refine .inr (g.len fun c hc => ?_)
   cases hcr:c.isRest with
   | false => rfl
   | true =>
    obtain ⟨i,hi⟩:=List.mem_iff_getElem?.mp hc
    rw [nqi l hi hcr] at hr
    cases hr)
 refine oq0.mpr ⟨ms,hm,rfl,rfl,fun i c s hc hs => ?_⟩
 obtain ⟨d,h1,h2⟩:=g.fit i s hs
 have hi:=(List.getElem?_eq_some_iff.mp hs).1
 rcases (nqu hm).2 i hi with ⟨z1,z2⟩ | ⟨z1,_,d',z3,z4,_⟩
 ·rw [z2] at hc
  rw [Nat.min_eq_left (by omega),hc] at h1
  cases h1
  exact h2
 ·rw [hc] at z3
  cases z3
  exact oqV z4 (mql h2)
theorem nqO {s:List Nat}{c:Nat} (hc:c ∈ s) (h:c ≠ 46):isDot s=false:=iqf.mpr ⟨fun e => by
 rw [e] at hc
 simp [sUp] at hc
 exact h hc,fun e => by
 rw [e] at hc
 simp [sStay] at hc
 exact h hc⟩
theorem GvA.snoc {cs:List Pc}{bs:List (List Nat × Vl)}{c:Pc}{x:Vl} (h:GvA cs bs) (hs:c.isStep=false) (hx:GvOk c x):GvA (cs ++ [c]) (bs ++ [(c.name,x)]):=by
 induction h with
 | nil => exact .gap hs hx .nil
 | step _ ih => exact .step ih
 | gap h1 h2 _ ih => exact .gap h1 h2 ih
theorem GvA.snocS {cs:List Pc}{bs:List (List Nat × Vl)}{w:List Nat} (h:GvA cs bs):GvA (cs ++ [.step w]) bs:=by
 induction h with
 | nil => exact .step .nil
 | step _ ih => exact .step ih
 | gap h1 h2 _ ih => exact .gap h1 h2 ih
theorem GvA.whole:∀ {cs:List Pc}{bs:List (List Nat × Vl)},GvA (cs.filter fun c => !c.isStep) bs->GvA cs bs
 | [],_,h => h
 | c :: cs,bs,h => by
  cases hs:c.isStep with
  | true =>
   rw [List.filter_cons,if_neg (by rw [hs]; decide)] at h
   cases c with
   | step w => exact .step h.whole
   | _ => cases hs
  | false =>
   rw [List.filter_cons,if_pos (by rw [hs]; rfl)] at h
   cases h with
   | step h => cases hs
   | gap h1 h2 h3 => exact .gap h1 h2 h3.whole
theorem GvA.names {cs:List Pc}{bs:List (List Nat × Vl)} (h:GvA cs bs):bs.map (·.1)=gapsM cs:=by
 induction h with
 | nil => rfl
 | step _ ih => exact ih
 | @gap c x cs bs h1 _ _ ih =>
  rw [List.map_cons,ih]
  unfold gapsM
  rw [List.filter_cons,if_pos (by rw [h1]; rfl)]
  rfl
theorem GvOk.vl {c:Pc}{x:Vl} (h:GvOk c x):VlOk x:=by
 cases c with
 | step w => exact h.elim
 | part a n t => obtain ⟨s,rfl,_,h2,h3,_⟩:=h; exact ⟨h2,by omega⟩
 | num n => obtain ⟨s,rfl,_⟩:=h; trivial
 | word n => obtain ⟨s,rfl,h1,_,h3⟩:=h; exact ⟨mqx h1,by omega⟩
 | gap n => obtain ⟨s,rfl,h1,h2,_⟩:=h; exact ⟨h1.2,by omega⟩
 | rest n => obtain ⟨ls,rfl,_,h2,h3⟩:=h; exact ⟨fun s hs => ⟨(h3 s hs).1.2,by have:=(h3 s hs).2.1; omega⟩,by omega⟩
theorem GvA.vl {cs:List Pc}{bs:List (List Nat × Vl)} (h:GvA cs bs):∀ b ∈ bs,VlOk b.2:=by
 induction h with
 | nil => intro b hb; cases hb
 | step _ ih => exact ih
 | gap _ h2 _ ih =>
  intro b hb
  rcases List.mem_cons.mp hb with z | z
  ·rw [z]; exact h2.vl
  ·exact ih b z
theorem kqE {cs:List Pc}{bs:List (List Nat × Vl)} (h:GvA cs bs):(∀ w:List Nat,stpsM (cs ++ [.step w]) bs=stpsM cs bs ++ [w])∧∀ (c:Pc) (b:List Nat × Vl),c.isStep=false->stpsM (cs ++ [c]) (bs ++ [b])=stpsM cs bs ++ stM c b.2:=by
 induction h with
 | nil => exact ⟨fun w => rfl,fun c b hc => by show stpsM [c] [b]=_; rw [dqb hc]; simp [stpsM]⟩
 | step _ ih => exact ⟨fun w => congrArg (_ :: ·) (ih.1 w),fun c b hc => congrArg (_ :: ·) (ih.2 c b hc)⟩
 | @gap c' x cs bs h1 h2 _ ih =>
  refine ⟨fun w => ?_,fun c b hc => ?_⟩
  ·show stpsM (c' :: (cs ++ [.step w])) ((c'.name,x) :: bs)=_
   rw [dqb h1,dqb h1,ih.1,List.append_assoc]
  ·show stpsM (c' :: (cs ++ [c])) ((c'.name,x) :: (bs ++ [b]))=_
   rw [dqb h1,dqb h1,ih.2 c b hc,List.append_assoc]
theorem nqm {cs:List Pc} (l:LastR cs) (i:Nat):LastR (cs.take i):=fun j c hc hr => by
 rw [List.getElem?_take] at hc
 split at hc
 ·have h1:=l j c hc hr
  have h2:=(List.getElem?_eq_some_iff.mp hc).1
  rw [List.length_take]
  omega
 ·cases hc
theorem BndV.kvs {H:Hp}{l:Addr}{bs:List (List Nat × Vl)}{ys:List V} (h:BndV H l bs ys):∃ kvs:List (Key × V),kvs.map (·.1)=bs.map (fun b => (Sum.inr ⟨b.1.toArray⟩:Key))∧ys.length=kvs.length ∧
  (∀ (i:Nat) (u:V),ys[i]?=some u->∃ (a:Addr) (kv:Key × V),u=.ref a∧kvs[i]?=some kv∧H a=some (.tup [kV kv.1,kv.2]))∧∀ b ∈ bs,∃ w:V,((Sum.inr ⟨b.1.toArray⟩:Key),w) ∈ kvs∧VlV H b.2 w:=by
 induction h with
 | nil => exact ⟨[],rfl,rfl,fun i u hu => by simp at hu,fun b hb => by cases hb⟩
 | @cons n x p v bs ys h1 h2 h3 _ ih =>
  obtain ⟨kvs,a1,a2,a3,a4⟩:=ih
  refine ⟨(Sum.inr ⟨n.toArray⟩,v) :: kvs,by rw [List.map_cons,List.map_cons,a1],by rw [List.length_cons,List.length_cons,a2],fun i u hu => ?_,fun b hb => ?_⟩
  ·cases i with
   | zero => cases hu; exact ⟨p,_,rfl,rfl,h1⟩
   | succ i => exact a3 i u (by simpa using hu)
  ·rcases List.mem_cons.mp hb with z | z
   ·rw [z]; exact ⟨v,List.mem_cons_self ..,h2⟩
   ·obtain ⟨w,w1,w2⟩:=a4 b z
    exact ⟨w,List.mem_cons_of_mem _ w1,w2⟩
theorem uqH {c:Pc}{s:List Nat}{r:List (List Nat)} (hs:c.isStep=false) (hr:c.isRest=false) (hf:fitsM c s=true) (hg:SgT s) (hl:s.length ≤ 400):GvOk c (bvM c (s :: r))∧stM c (bvM c (s :: r))=[s]:=by
 have hd:=mql hf
 cases c with
 | step w => cases hs
 | rest n => cases hr
 | part a n t =>
  obtain ⟨b1,b2⟩:=kqJ (qqT hf)
  refine ⟨⟨amid a t s,rfl,b2,fun z hz => hg.2 z (sqN z hz),by have:=qqL (h:=a) (t:=t) (s:=s); omega,by rw [b1]; exact hd⟩,?_⟩
  show [a ++ amid a t s ++ t]=[s]
  rw [b1]
 | num n =>
  have hn:numB s=true:=(Bool.and_eq_true_iff.mp hf).2
  obtain ⟨b1,b2,b3⟩:=mqn hn
  refine ⟨⟨intOf s,rfl,b2,b3⟩,?_⟩
  show [dg (intOf s)]=[s]
  rw [b1]
 | word n =>
  have hw:wordB s=true:=(Bool.and_eq_true_iff.mp hf).2
  unfold wordB at hw
  rw [Bool.and_eq_true,Bool.and_eq_true,decide_eq_true_eq,decide_eq_true_eq] at hw
  refine ⟨⟨s,by show Vl.txt (amid [] [] s)=_; rw [cq9],hw.2,hw.1.1,hw.1.2⟩,?_⟩
  show [[] ++ amid [] [] s ++ []]=[s]
  rw [cq9]; simp
 | gap n =>
  refine ⟨⟨s,by show Vl.txt (amid [] [] s)=_; rw [cq9],hg,hl,hd⟩,?_⟩
  show [[] ++ amid [] [] s ++ []]=[s]
  rw [cq9]; simp
theorem oqA:∀ {cs:List Pc}{ss:List (List Nat)},(∀ (i:Nat) (c:Pc),cs[i]?=some c->∃ s,ss[i]?=some s∧fitsM c s=true)->LastR cs->((∀ c ∈ cs,c.isRest=false)->ss.length=cs.length)->(∀ s ∈ ss,(SgT s∧s.length ≤ 400)∧isDot s=false)->ss.length ≤ 50->GvA cs (boundM cs ss)∧stpsM cs (boundM cs ss)=ss
 | [],ss,_,_,hl,_,_ => by
  have:=hl (fun c hc => by cases hc)
  rw [List.length_nil] at this
  rw [List.length_eq_zero_iff.mp this]
  exact ⟨.nil,rfl⟩
 | c :: cs,[],hf,_,_,_,_ => by
  obtain ⟨s,h0,_⟩:=hf 0 c rfl
  cases h0
 | c :: cs,s :: ss,hf,hr,hl,hg,hm => by
  obtain ⟨s',h0,hfs⟩:=hf 0 c rfl
  cases h0
  obtain ⟨⟨g1,g2⟩,g3⟩:=hg s (List.mem_cons_self ..)
  have hbe:boundM (c :: cs) (s :: ss)=(if c.isStep then [] else [(c.name,bvM c (s :: ss))]) ++ boundM cs ss:=rfl
  by_cases hcr:c.isRest=true
  ·have hn:cs=[]:=List.length_eq_zero_iff.mp (by have:=hr 0 c rfl hcr; rw [List.length_cons] at this; omega)
   subst hn
   cases c with
   | rest n => exact ⟨.gap rfl ⟨s :: ss,rfl,by simp,hm,fun z hz => ⟨(hg z hz).1.1,(hg z hz).1.2,(hg z hz).2⟩⟩ .nil,by show (s :: ss) ++ []=_; simp⟩
   | _ => cases hcr
  ·have hcr':c.isRest=false:=by simpa using hcr
   obtain ⟨i1,i2⟩:=oqA (cs:=cs) (ss:=ss) (fun i d hd => by
    obtain ⟨z,h1,h2⟩:=hf (i + 1) d (by simpa using hd)
    exact ⟨z,by simpa using h1,h2⟩) (fun i d hd hdr => by
    have:=hr (i + 1) d (by simpa using hd) hdr
    rw [List.length_cons] at this; omega) (fun h => by
    have:=hl (fun d hd => by
     rcases List.mem_cons.mp hd with z9 | hd
     ·rw [z9]; exact hcr'
     ·exact h d hd)
    simp only [List.length_cons] at this; omega) (fun z hz => hg z (List.mem_cons_of_mem _ hz)) (by rw [List.length_cons] at hm; omega)
   rw [hbe]
   cases hst:c.isStep with
   | true =>
    cases c with
    | step w =>
     have:s=w:=pqK hfs
     subst this
     exact ⟨.step i1,congrArg (_ :: ·) i2⟩
    | _ => cases hst
   | false =>
    obtain ⟨v1,v2⟩:=uqH (r:=ss) hst hcr' hfs g1 g2
    refine ⟨.gap hst v1 i1,?_⟩
    show stpsM (c :: cs) ((c.name,bvM c (s :: ss)) :: boundM cs ss)=_
    rw [dqb hst,v2,i2]
    rfl
def SmV:Vl->Prop
 | .txt s => s.length ≤ 90
 | .int _ => True
 | .lst ls => ls.length ≤ 5∧∀ s ∈ ls,s.length ≤ 90
theorem uqN {c:Pc}{x:Vl} (ok:PcOk c) (hs:c.isStep=false) (h:GvOk c x) (sm:SmV x):(stM c x).length ≤ 5∧∀ s ∈ stM c x,s.length ≤ 400:=by
 cases c with
 | step w => cases hs
 | rest n =>
  obtain ⟨ls,rfl,_⟩:=h
  exact ⟨sm.1,fun s hs => Nat.le_trans (sm.2 s hs) (by decide)⟩
 | num n =>
  obtain ⟨s,e,hf,_⟩:=qq8 ok rfl rfl h
  rw [e]
  exact ⟨by simp,fun z hz => by rw [List.mem_singleton.mp hz]; have:=(jqU hf).2.1; omega⟩
 | part a n t =>
  obtain ⟨s,rfl,_⟩:=h
  obtain ⟨o1,o2,_⟩:=ok
  have sm:s.length ≤ 90:=sm
  exact ⟨by show [_].length ≤ 5; simp,fun z hz => by rw [List.mem_singleton.mp (show z ∈ [a ++ s ++ t] from hz)]; simp only [List.length_append]; omega⟩
 | word n =>
  obtain ⟨s,rfl,_⟩:=h
  have sm:s.length ≤ 90:=sm
  exact ⟨by show [_].length ≤ 5; simp,fun z hz => by rw [List.mem_singleton.mp (show z ∈ [[] ++ s ++ []] from hz)]; simp; omega⟩
 | gap n =>
  obtain ⟨s,rfl,_⟩:=h
  have sm:s.length ≤ 90:=sm
  exact ⟨by show [_].length ≤ 5; simp,fun z hz => by rw [List.mem_singleton.mp (show z ∈ [[] ++ s ++ []] from hz)]; simp; omega⟩
theorem uq3 {cs:List Pc}{bs:List (List Nat × Vl)} (h:GvA cs bs):(∀ c ∈ cs,PcOk c)->(∀ b ∈ bs,SmV b.2)->(stpsM cs bs).length ≤ 5 * cs.length∧∀ s ∈ stpsM cs bs,s.length ≤ 400:=by
 induction h with
 | nil => exact fun _ _ => ⟨Nat.le_refl _,fun s hs => by cases hs⟩
 | @step w cs bs _ ih =>
  intro ok sm
  obtain ⟨i1,i2⟩:=ih (fun c hc => ok c (List.mem_cons_of_mem _ hc)) sm
  have o:=(ok _ (List.mem_cons_self ..)).2.1
  refine ⟨by show (w :: stpsM cs bs).length ≤ _; rw [List.length_cons,List.length_cons]; omega,fun s hs => ?_⟩
  rcases List.mem_cons.mp (show s ∈ w :: stpsM cs bs from hs) with z | z
  ·rw [z]; omega
  ·exact i2 s z
 | @gap c x cs bs hst hg _ ih =>
  intro ok sm
  obtain ⟨i1,i2⟩:=ih (fun c hc => ok c (List.mem_cons_of_mem _ hc)) (fun b hb => sm b (List.mem_cons_of_mem _ hb))
  obtain ⟨j1,j2⟩:=uqN (ok c (List.mem_cons_self ..)) hst hg (sm (c.name,x) (List.mem_cons_self ..))
  rw [dqb hst]
  refine ⟨by rw [List.length_append,List.length_cons]; have:(stM c (c.name,x).2).length ≤ 5:=j1; omega,fun s hs => ?_⟩
  rcases List.mem_append.mp hs with z | z
  ·exact j2 s z
  ·exact i2 s z
end Wm
namespace L2
open PySem
section
variable {X:Cx}
def rStrU:List V->Hp->VK->Prop:=fun xs H Q => (∃ i:Int,xs=[.int i]∧i.natAbs.log2 < 1920∧Q (.str (toString i)) H) ∨ ∃ z:Str,xs=[.str z]∧Q (.str z) H
theorem nq7:CallR X (.type "str") rStrU:=by
 intro pins s σ H xs us Q I r h
 rcases h with ⟨i,rfl,hz,q⟩ | ⟨z,rfl,q⟩
 ·exact hqb pins s σ H _ us Q I r ⟨i,rfl,hz,q⟩
 ·obtain ⟨u,e9,t,rfl⟩:=vals1 r
  subst e9
  exact PySem.P.str_of_str ⟨.str z,H,I,⟨t,rfl⟩,q⟩
end
end L2
namespace Wm
open PySem L2
theorem BndV.get {H:Hp}{l:Addr}:∀ {bs:List (List Nat × Vl)}{ys:List V},BndV H l bs ys->∀ {i:Nat}{v:V},ys[i]?=some v->∃ (b:List Nat × Vl) (p:Addr) (w:V),bs[i]?=some b∧v=.ref p∧H p=some (.tup [tV b.1,w])∧VlV H b.2 w∧∀ q,w=.ref q->q ≠ l
 | _,_,.nil,i,v,e => by simp at e
 | _,_,.cons a b c r,0,v,e => by cases e; exact ⟨_,_,_,rfl,rfl,a,b,c⟩
 | _,_,.cons a b c r,i + 1,v,e => by simp only [List.getElem?_cons_succ] at e ⊢; exact r.get e
def FrB (H0 H:Hp) (ys:List V):Prop:=∀ v ∈ ys,∃ (p:Addr) (a w:V),v=.ref p∧H p=some (.tup [a,w])∧∀ q,w=.ref q->H0 q=none
theorem FrB.mono {H0 H H':Hp}{ys:List V} (s:SameT H H') (h:FrB H0 H ys):FrB H0 H' ys:=fun v hv => by
 obtain ⟨p,a,w,e,h1,h2⟩:=h v hv
 exact ⟨p,a,w,e,s _ _ h1,h2⟩
theorem FrB.snoc {H0 H:Hp}{ys:List V}{p:Addr}{a w:V} (h:FrB H0 H ys) (hp:H p=some (.tup [a,w])) (hw:∀ q,w=.ref q->H0 q=none):FrB H0 H (ys ++ [.ref p]):=fun v hv => by
 rcases List.mem_append.mp hv with z | z
 ·exact h v z
 ·exact ⟨p,a,w,List.mem_singleton.mp z,hp,hw⟩
theorem mqI {ps:List Pc} (h:∀ c ∈ ps,c.isRest=false):LastR ps:=fun i c hc hr => by
 rw [h c (List.mem_of_getElem? hc)] at hr
 cases hr
theorem mq5 {ps:List Pc}{d:Pc} (h:∀ c ∈ ps,c.isRest=false):LastR (ps ++ [d]):=fun i c hc hr => by
 by_cases hi:i < ps.length
 ·rw [List.getElem?_append_left hi] at hc
  rw [h c (List.mem_of_getElem? hc)] at hr
  cases hr
 ·have:=(List.getElem?_eq_some_iff.mp hc).1
  rw [List.length_append,List.length_singleton] at this ⊢
  omega
def WlAt (H:Hp) (l:Addr) (ws:List (List Int)) (us:List V):Prop:=us.length=ws.length∧∀ (j:Nat) (u:V),us[j]?=some u->∃ (w:List Int) (r:Addr),ws[j]?=some w∧u=.ref r∧r ≠ l∧H r=some (.lst (w.map V.int))
theorem WlAt.mono {H H':Hp}{l:Addr}{ws:List (List Int)}{us:List V} (s:Same H H') (h:WlAt H l ws us):WlAt H' l ws us:=⟨h.1,fun j u hu => by
 obtain ⟨w,r,h1,h2,h3,h4⟩:=h.2 j u hu
 exact ⟨w,r,h1,h2,h3,s _ _ h4⟩⟩
theorem WlAt.put {H:Hp}{l:Addr}{ws:List (List Int)}{us:List V}{o:HO} (h:WlAt H l ws us):WlAt (L2.upd H l o) l ws us:=⟨h.1,fun j u hu => by
 obtain ⟨w,r,h1,h2,h3,h4⟩:=h.2 j u hu
 exact ⟨w,r,h1,h2,h3,by rw [aqq h3]; exact h4⟩⟩
theorem WlAt.snoc {H:Hp}{l r:Addr}{ws:List (List Int)}{us:List V}{w:List Int} (h:WlAt H l ws us) (hr:r ≠ l) (hw:H r=some (.lst (w.map V.int))):WlAt H l (ws ++ [w]) (us ++ [.ref r]):=⟨by rw [List.length_append,List.length_append,h.1]; rfl,fun j u hu => by
 by_cases hj:j < us.length
 ·rw [List.getElem?_append_left hj] at hu
  obtain ⟨w',r',h1,h2⟩:=h.2 j u hu
  exact ⟨w',r',by rw [List.getElem?_append_left (by rw [<- h.1]; exact hj)]; exact h1,h2⟩
 ·have h9:=(List.getElem?_eq_some_iff.mp hu).1
  rw [List.length_append,List.length_singleton] at h9
  rw [List.getElem?_append_right (by omega),show j - us.length=0 by omega] at hu
  cases hu
  exact ⟨w,r,by rw [List.getElem?_append_right (by rw [<- h.1]; omega),<- h.1,show j - us.length=0 by omega]; rfl,rfl,hr,hw⟩⟩
theorem lexL {c d:Pc} (h:worthM c ≠ worthM d):HT.lexLt (worthL d) (worthL c)=HT.lexLt (worthM d) (worthM c):=by
 cases c <;> cases d <;> first
  | exact absurd rfl h
  | rfl
  | (simp [worthL,worthM,wordW,Pc.head,Pc.tail,HT.lexLt])
theorem mqg (c:Pc):worthL c ≠ [6]∧HT.lexLt (worthL c) [6]=true∧HT.lexLt [6] (worthL c)=false:=by
 cases c <;> simp [worthL,wordW,HT.lexLt]
theorem mqA:∀ a b:List Pc,HT.lexG (fun a b:List Int => decide (a=b)) (fun a b => HT.lexLt b a) (a.map worthL ++ [[6]]) (b.map worthL ++ [[6]])=moreM a b
 | [],[] => (rfl)
 | [],d :: ds => by
  have h:=mqg d
  show (if decide ([6]=worthL d)=true then _ else HT.lexLt (worthL d) [6])=true
  rw [if_neg (by rw [decide_eq_true_iff]; exact h.1.symm)]
  exact h.2.1
 | c :: cs,[] => by
  have h:=mqg c
  show (if decide (worthL c=[6])=true then _ else HT.lexLt [6] (worthL c))=false
  rw [if_neg (by rw [decide_eq_true_iff]; exact h.1)]
  exact h.2.2
 | c :: cs,d :: ds => by
  show (if decide (worthL c=worthL d)=true then HT.lexG _ _ (cs.map worthL ++ [[6]]) (ds.map worthL ++ [[6]]) else HT.lexLt (worthL d) (worthL c))=if worthM c=worthM d then moreM cs ds else HT.lexLt (worthM d) (worthM c)
  by_cases e:worthM c=worthM d
  ·rw [if_pos e,if_pos (decide_eq_true (gqH.mpr e)),mqA cs ds]
  ·rw [if_neg e,if_neg (by rw [decide_eq_true_iff]; exact fun z => e (gqH.mp z)),lexL e]
theorem mqt {H:Hp}:∀ (ws:List (List Int)) (us:List V),us.length=ws.length->(∀ (j:Nat) (u:V),us[j]?=some u->∃ (w:List Int) (r:Addr),ws[j]?=some w∧u=.ref r∧H r=some (.lst (w.map V.int)))->IsAll H (ws.map intsD) us
 | [],[],_,_ => .nil
 | [],_ :: _,h,_ => (by simp at h)
 | _ :: _,[],h,_ => (by simp at h)
 | w :: ws,u :: us,h,hj => by
  obtain ⟨w',r,h1,rfl,h2⟩:=hj 0 u rfl
  cases h1
  exact .cons (.lst h2 (fqp _)) (mqt ws us (by simpa using h) fun j y hy => hj (j + 1) y (by simpa using hy))
theorem WlAt.isAll {H:Hp}{l:Addr}{ws:List (List Int)}{us:List V} (h:WlAt H l ws us):IsAll H (ws.map intsD) us:=mqt ws us h.1 fun j u hu => by
 obtain ⟨w,r,h1,h2,_,h4⟩:=h.2 j u hu
 exact ⟨w,r,h1,h2,h4⟩
theorem tqv (c:Pc):PyData.eqv (pcD c) (pcD c)=true:=by
 have eq:∀ s:Str,PyData.eqv (.str s) (.str s)=true:=fun s => by simp [PyData.eqv]
 have two:∀ (k:Str) (l:List Nat),PyData.eqv (.tuple [.str k,st l]) (.tuple [.str k,st l])=true:=fun k l => dqA fun d hd => by
  simp only [List.not_mem_nil,List.mem_cons,or_false] at hd
  rcases hd with rfl | rfl
  ·exact eq _
  ·exact eq1 l
 cases c with
 | part h n t =>
  refine dqA fun d hd => ?_
  simp only [List.not_mem_nil,List.mem_cons,or_false] at hd
  rcases hd with rfl | rfl | rfl | rfl
  ·exact eq _
  ·exact eq1 _
  ·exact eq1 _
  ·exact eq1 _
 | step s => exact two _ s
 | num n => exact two _ n
 | word n => exact two _ n
 | gap n => exact two _ n
 | rest n => exact two _ n
def pttD (p:List Pc × Bool):PyData:=.tuple [.tuple (p.1.map pcD),.bool p.2]
def rwD (t:Rw):PyData:=.tuple [st t.1,pttD t.2]
theorem PtAt.isD {H:Hp}{cs:List Pc}{e:Bool}{p:Addr} (h:PtAt H cs e p):Is H (pttD (cs,e)) (.ref p):=by
 obtain ⟨q,xs,h1,h2,h3⟩:=h
 exact .tup h1 (.cons (.tup h2 h3.isT.is) (.cons (.bl _) .nil))
theorem TbV.isAll {H:Hp}:∀ {T:List Rw}{ws:List V},TbV H T ws->IsAll H (T.map rwD) ws
 | _,_,.nil => .nil
 | _,_,.cons ⟨a,p,e,h1,h2⟩ t => .cons (by rw [e]; exact .tup h1 (.cons (.str _) (.cons h2.isD .nil))) t.isAll
def TabOk (T:List Rw):Prop:=∀ t ∈ T,(∀ x ∈ t.1,isSg x=true)∧PcsOk t.2.1∧LastR t.2.1∧t.2.1.length ≤ 5
theorem oq9 {T:List Rw} (h:TabOk T):SeqAt.shaped (.list (T.map rwD))=true:=(layL (n:=4) fun d hd => by
 obtain ⟨t,ht,rfl⟩:=List.mem_map.mp hd
 obtain ⟨h1,h2,_⟩:=h t ht
 refine LayAt.tup (n:=3) fun d hd => ?_
 simp only [List.not_mem_nil,List.mem_cons,or_false] at hd
 rcases hd with rfl | rfl
 ·exact (LayAt.st h1).le (by decide)
 ·refine LayAt.tup (n:=2) fun d hd => ?_
  simp only [List.not_mem_nil,List.mem_cons,or_false] at hd
  rcases hd with rfl | rfl
  ·exact qqC fun c hc => (h2.2 c hc).2
  ·exact LayAt.bool.le (by decide)).shaped (by decide)
theorem tqB (T:List Rw):PyData.eqv (.list (T.map rwD)) (.list (T.map rwD))=true:=hqF fun d hd => by
 obtain ⟨t,_,rfl⟩:=List.mem_map.mp hd
 refine dqA fun d hd => ?_
 simp only [List.not_mem_nil,List.mem_cons,or_false] at hd
 rcases hd with rfl | rfl
 ·exact eq1 _
 ·refine dqA fun d hd => ?_
  simp only [List.not_mem_nil,List.mem_cons,or_false] at hd
  rcases hd with rfl | rfl
  ·exact dqA fun d hd => by obtain ⟨c,_,rfl⟩:=List.mem_map.mp hd; exact tqv c
  ·exact jqy _
def fitR (r e:Bool) (ss:List (List Nat)) (t:Rw):Bool:=fitsP t.2.1 t.2.2 r ss e
theorem oqt {cs:List Pc}{m:Nat}{n:List Nat} (hm:m < cs.length) (l:LastR cs):LastR (cs.take m ++ [.gap n] ++ cs.drop (m + 1)):=by
 have e:cs.take m ++ [.gap n] ++ cs.drop (m + 1)=cs.set m (.gap n):=by
  rw [List.set_eq_take_append_cons_drop,if_pos hm,List.append_assoc]
  rfl
 rw [e]
 intro i c hc hr
 rw [List.length_set]
 rw [List.getElem?_set] at hc
 split at hc
 ·cases hc
  cases hr
 ·exact l i c hc hr
def NmP (ns:List (List Nat)) (cs:List Pc):Prop:=∀ (i:Nat) (c:Pc),cs[i]?=some c->c.isStep=false->ns[i]?=some c.name
theorem NmP.take {ns:List (List Nat)}{cs:List Pc} (h:NmP ns cs) (n:Nat):NmP ns (cs.take n):=fun i c hc hs => by
 rw [List.getElem?_take] at hc
 split at hc
 ·exact h i c hc hs
 ·cases hc
theorem NmP.snoc {ns:List (List Nat)}{cs:List Pc}{d:Pc} (h:NmP ns cs) (hd:d.isStep=false->ns[cs.length]?=some d.name):NmP ns (cs ++ [d]):=fun i c hc hs => by
 by_cases hi:i < cs.length
 ·rw [List.getElem?_append_left hi] at hc
  exact h i c hc hs
 ·have:=(List.getElem?_eq_some_iff.mp hc).1
  rw [List.length_append,List.length_singleton] at this
  rw [List.getElem?_append_right (by omega),show i - cs.length=0 by omega] at hc
  cases hc
  rw [show i=cs.length by omega]
  exact hd hs
theorem NmP.put {ns:List (List Nat)}{cs:List Pc}{m:Nat}{n:List Nat} (h:NmP ns cs) (hm:m < cs.length) (hn:ns[m]?=some n):NmP ns (cs.take m ++ [.gap n] ++ cs.drop (m + 1)):=by
 have e:cs.take m ++ [.gap n] ++ cs.drop (m + 1)=cs.set m (.gap n):=by
  rw [List.set_eq_take_append_cons_drop,if_pos hm,List.append_assoc]
  rfl
 rw [e]
 intro i c hc hs
 rw [List.getElem?_set] at hc
 split at hc
 ·rename_i z
  cases hc
  rw [<- z]
  exact hn
 ·exact h i c hc hs
theorem kqs {ns:List (List Nat)} (hn:ns.Nodup) {k:Nat}{n:List Nat} (hk:ns[k]?=some n):(List.range ns.length).filter (fun i => decide (ns[i]?=some n))=[k]:=by
 have hlt:=(List.getElem?_eq_some_iff.mp hk).1
 have mem:∀ i,i ∈ (List.range ns.length).filter (fun i => decide (ns[i]?=some n)) ↔ i=k:=fun i => by
  rw [List.mem_filter,List.mem_range,decide_eq_true_eq]
  refine ⟨fun ⟨h1,h2⟩ => ?_,fun e => by rw [e]; exact ⟨hlt,hk⟩⟩
  obtain ⟨a1,a2⟩:=List.getElem?_eq_some_iff.mp h2
  obtain ⟨b1,b2⟩:=List.getElem?_eq_some_iff.mp hk
  rw [List.nodup_iff_pairwise_ne,List.pairwise_iff_getElem] at hn
  rcases Nat.lt_trichotomy i k with z | z | z
  ·exact absurd (a2.trans b2.symm) (hn i k a1 b1 z)
  ·exact z
  ·exact absurd (b2.trans a2.symm) (hn k i b1 a1 z)
 have nd:((List.range ns.length).filter (fun i => decide (ns[i]?=some n))).Nodup:=List.nodup_range.filter _
 generalize (List.range ns.length).filter (fun i => decide (ns[i]?=some n))=L at mem nd
 match L,mem,nd with
 | [],mem,_ => exact absurd ((mem k).mpr rfl) (by simp)
 | [a],mem,_ => rw [(mem a).mp (by simp)]
 | a :: b :: r,mem,nd =>
  have h1:=(mem a).mp (by simp)
  have h2:=(mem b).mp (by simp)
  rw [h1,h2] at nd
  simp at nd
theorem oqv {T:List Rw} (hn:(T.map (·.1)).Nodup) {i j:Nat}{t u:Rw} (hi:T[i]?=some t) (hj:T[j]?=some u) (h:t.1=u.1):i=j:=by
 have a:(T.map (·.1))[i]?=some t.1:=by rw [List.getElem?_map,hi]; rfl
 have b:(T.map (·.1))[j]?=some t.1:=by rw [List.getElem?_map,hj,h]; rfl
 have:=kqs hn a
 have m:j ∈ (List.range (T.map (·.1)).length).filter (fun i => decide ((T.map (·.1))[i]?=some t.1)):=List.mem_filter.mpr ⟨List.mem_range.mpr (List.getElem?_eq_some_iff.mp b).1,decide_eq_true b⟩
 rw [this] at m
 exact (List.mem_singleton.mp m).symm
theorem qqP {T pr po:List Rw}{m t:Rw}{k:Nat} (eT:T=pr ++ m :: po) (hk:T[k]?=some t) (hne:k ≠ pr.length) (h1:t ∈ pr->mrR m t=true) (h2:t ∈ po->mrR t m=false):moreM m.2.1 t.2.1=true ∨ (moreM m.2.1 t.2.1=false∧m.2.1.map worthL=t.2.1.map worthL∧pr.length < k):=by
 rw [eT] at hk
 by_cases hlt:k < pr.length
 ·rw [List.getElem?_append_left hlt] at hk
  exact .inl (h1 (List.mem_of_getElem? hk))
 ·rw [List.getElem?_append_right (by omega),show k - pr.length=(k - pr.length - 1) + 1 by omega,List.getElem?_cons_succ] at hk
  have h3:=h2 (List.mem_of_getElem? hk)
  cases e:moreM m.2.1 t.2.1 with
  | true => exact .inl rfl
  | false => exact .inr ⟨rfl,hqV.mpr (mqm e h3),by omega⟩
theorem qqt (l:List Int):LayAt 1 (intsD l):=layL (n:=0) fun d hd => by
 obtain ⟨i,_,rfl⟩:=List.mem_map.mp hd
 exact LayAt.iD (o:=some i)
theorem iqS (ws:List (List Int)):SeqAt.shaped (.list (ws.map intsD))=true:=(layL (n:=1) fun d hd => by
 obtain ⟨w,_,rfl⟩:=List.mem_map.mp hd
 exact qqt w).shaped (by decide)
theorem mq3 (ws:List (List Int)):PyData.eqv (.list (ws.map intsD)) (.list (ws.map intsD))=true:=hqF fun d hd => by
 obtain ⟨w,_,rfl⟩:=List.mem_map.mp hd
 rw [mqF]
 exact decide_eq_true rfl
theorem jq3 {cs:List Pc}{bs:List (List Nat × Vl)}{ws:List (List Nat × PyData)} (h:GvA cs bs) (ok:∀ c ∈ cs,PcOk c) (l:LastR cs) (hn:∀ b ∈ bs,named ws b.1=[vlD b.2]):fillF cs ws=.ok (stpsM cs bs):=by
 have hf:=oqg h ok l true
 have g:=kq5 h ok l
 obtain ⟨_,_,h3,_,h5⟩:=kqT hf
 exact jqg (fun i c hc => jqr hf hc) l h3 (fun s hs => ⟨(g.sg s hs).1,h5 s hs⟩) (fun n x hx => by rw [g.bnd] at hx; exact hn _ hx)
theorem pqN {c:Pc}{x:Vl}{ws:List (List Nat × PyData)} (hs:c.isStep=false) (ok:PcOk c) (hx:GvOk c x) (hn:named ws c.name=[vlD x]):∃ a,fillS c ws=.ok a:=by
 have h:=jq3 (ws:=ws) (GvA.gap hs hx .nil) (fun d hd => by rw [List.mem_singleton.mp hd]; exact ok) (fun i d hd _ => by
  have:=(List.getElem?_eq_some_iff.mp hd).1
  simp only [List.length_cons,List.length_nil] at this ⊢
  omega) (fun b hb => by rw [List.mem_singleton.mp hb]; exact hn)
 unfold fillF at h
 cases e:fillS c ws with
 | ok a => exact ⟨a,rfl⟩
 | error n => rw [e] at h; cases h
theorem qqR {ws:List (List Nat × PyData)}{cs:List Pc}{bs:List (List Nat × Vl)} (h:GvA cs bs):(∀ c ∈ cs,PcOk c)->∀ {k:Nat}{b:List Nat × Vl},bs[k]?=some b->(∀ b' ∈ bs.take k,named ws b'.1=[vlD b'.2])->named ws b.1=[]->fillF cs ws=.error b.1:=by
 induction h with
 | nil => intro _ k b hb; simp at hb
 | @step w cs bs _ ih =>
  intro ok k b hb h1 h2
  have e:=ih (fun c hc => ok c (List.mem_cons_of_mem _ hc)) hb h1 h2
  unfold fillF
  rw [e]
  rfl
 | @gap c x cs bs hst hg _ ih =>
  intro ok k b hb h1 h2
  cases k with
  | zero =>
   cases hb
   unfold fillF
   rw [hqU hst,h2]
  | succ k =>
   rw [List.getElem?_cons_succ] at hb
   rw [List.take_succ_cons] at h1
   have e:=ih (fun c hc => ok c (List.mem_cons_of_mem _ hc)) hb (fun b' hb' => h1 b' (List.mem_cons_of_mem _ hb')) h2
   obtain ⟨a,ha⟩:=pqN (ws:=ws) hst (ok c (List.mem_cons_self ..)) hg (h1 _ (List.mem_cons_self ..))
   unfold fillF
   rw [ha,e]
theorem pqP {l:List V} (h:l.length ≤ 5):pickV l none none (some (-1))=l.reverse:=by
 have e:∀ n:Nat,n ≤ 5->sliceRange (sliceBounds none none (some (-1)) n).1 (sliceBounds none none (some (-1)) n).2.1 (sliceBounds none none (some (-1)) n).2.2=(List.range n).reverse:=fun n hn => by
  have:n=0 ∨ n=1 ∨ n=2 ∨ n=3 ∨ n=4 ∨ n=5:=by omega
  rcases this with rfl | rfl | rfl | rfl | rfl | rfl <;> decide +kernel
 unfold pickV
 rw [e _ h]
 match l,h with
 | [],_ => rfl
 | [_],_ => rfl
 | [_,_],_ => rfl
 | [_,_,_],_ => rfl
 | [_,_,_,_],_ => rfl
 | [_,_,_,_,_],_ => rfl
theorem fqO {bs:List (List Nat × Vl)}:(bs.map fun b => (b.1,vlD b.2)).map (·.1)=bs.map (·.1):=by rw [List.map_map]; rfl
theorem mq2 {cs:List Pc}{bs:List (List Nat × Vl)} (h:GvA cs bs) (ok:∀ c ∈ cs,PcOk c) (hn:(gapsM cs).Nodup) {k:Nat}{b:List Nat × Vl} (hb:bs[k]?=some b):fillM cs ((bs.take k ++ bs.drop (k + 1)).map fun b => (b.1,vlD b.2))=.error b.1:=by
 have hN:(bs.map (·.1)).Nodup:=by rw [h.names]; exact hn
 have eb:bs=bs.take k ++ b :: bs.drop (k + 1):=by
  obtain ⟨h1,h2⟩:=List.getElem?_eq_some_iff.mp hb
  rw [<- h2,<- List.drop_eq_getElem_cons h1,List.take_append_drop]
 have hN2:((bs.take k ++ bs.drop (k + 1)).map (·.1)).Nodup∧b.1 ∉ (bs.take k ++ bs.drop (k + 1)).map (·.1):=by
  rw [eb,List.map_append,List.map_cons] at hN
  have hp:=(List.perm_middle (a:=b.1) (l₁:=(bs.take k).map (·.1)) (l₂:=(bs.drop (k + 1)).map (·.1))).nodup_iff.mp hN
  rw [List.nodup_cons] at hp
  rw [List.map_append]
  exact ⟨hp.2,hp.1⟩
 have e:=qqR (ws:=(bs.take k ++ bs.drop (k + 1)).map fun b => (b.1,vlD b.2)) h ok hb (fun b' hb' => gqm (by rw [fqO]; exact hN2.1) (List.mem_map.mpr ⟨b',List.mem_append_left _ hb',rfl⟩)) (jqo (by rw [fqO]; exact hN2.2))
 unfold fillM
 rw [e]
theorem pq4 {cs:List Pc}{bs:List (List Nat × Vl)}{n:List Nat}{d:PyData} (h:GvA cs bs) (ok:∀ c ∈ cs,PcOk c) (l:LastR cs) (hn:(gapsM cs).Nodup) (h0:n ∉ gapsM cs):fillM cs ((bs.map fun b => (b.1,vlD b.2)) ++ [(n,d)])=.error n:=by
 have hN:(bs.map (·.1)).Nodup:=by rw [h.names]; exact hn
 have e:=jq3 (ws:=(bs.map fun b => (b.1,vlD b.2)) ++ [(n,d)]) h ok l (fun b hb => gqm (by
  rw [List.map_append,fqO,List.nodup_append]
  refine ⟨hN,(by simp),fun x hx y hy => ?_⟩
  rw [List.map_singleton,List.mem_singleton] at hy
  rw [h.names] at hx
  rw [hy]
  exact fun z => h0 (by rw [<- (show x=n from z)]; exact hx)) (List.mem_append_left _ (List.mem_map.mpr ⟨b,hb,rfl⟩)))
 unfold fillM
 rw [e,kqf (i:=bs.length) (n:=n) (d:=d) (by rw [List.getElem?_append_right (by rw [List.length_map]; exact Nat.le_refl _),List.length_map,Nat.sub_self]; rfl) (fun w hw => by
  rw [List.take_append_of_le_length (by rw [List.length_map]; exact Nat.le_refl _)] at hw
  obtain ⟨b,hb,rfl⟩:=List.mem_map.mp (List.mem_of_mem_take hw)
  rw [<- h.names]
  exact List.mem_map_of_mem hb) h0]
theorem qqp {cs:List Pc}{bs:List (List Nat × Vl)} (h:GvA cs bs) (ok:∀ c ∈ cs,PcOk c) (l:LastR cs) (hn:(gapsM cs).Nodup):fillM cs (bs.reverse.map fun b => (b.1,vlD b.2))=.ok (stpsM cs bs):=by
 have hN:(bs.reverse.map (·.1)).Nodup:=(((List.reverse_perm bs).map (·.1)).nodup_iff).mpr (by rw [h.names]; exact hn)
 have e:=jq3 (ws:=bs.reverse.map fun b => (b.1,vlD b.2)) h ok l (fun b hb => gqm (by rw [fqO]; exact hN) (List.mem_map.mpr ⟨b,List.mem_reverse.mpr hb,rfl⟩))
 unfold fillM
 rw [e,jqk (fun w hw => by
  obtain ⟨b,hb,rfl⟩:=List.mem_map.mp hw
  rw [<- h.names]
  exact List.mem_map_of_mem (List.mem_reverse.mp hb))]
theorem VlsV.rev {H:Hp}:∀ {vs:List (List Nat × PyData)}{xs:List V},VlsV H vs xs->VlsV H vs.reverse xs.reverse
 | _,_,.nil => .nil
 | _,_,.cons h a r => by rw [List.reverse_cons,List.reverse_cons]; exact (VlsV.cons h a .nil).append (VlsV.rev r)
theorem qqe {T:List Rw} (hn:(T.map (·.1)).Nodup) {k:Nat}{t:Rw} (hk:T[k]?=some t):T.find? (fun u => decide (u.1=t.1))=some t:=by
 cases h:T.find? (fun u => decide (u.1=t.1)) with
 | none =>
  rw [List.find?_eq_none] at h
  exact absurd (decide_eq_true rfl) (h t (List.mem_of_getElem? hk))
 | some u =>
  have h1:=List.find?_some h
  obtain ⟨i,hi,e⟩:=List.getElem_of_mem (List.mem_of_find?_eq_some h)
  have hu:T[i]?=some u:=List.getElem?_eq_some_iff.mpr ⟨hi,e⟩
  have:=oqv hn hu hk (of_decide_eq_true h1)
  rw [this,hk] at hu
  exact hu.symm
def top (i:Nat):Stmt:=PySem.Challenge.pw_waymark_k63_ways_made_and_led_back.main.body.getD i (.Pass ⟨0,0,0,0⟩)
abbrev dqD:Stmt:=top 5
abbrev aqM:Stmt:=top 11
abbrev aqG:Stmt:=inClass (top 14) 0
abbrev fqg:Stmt:=top 19
abbrev fqq:Stmt:=top 24
abbrev dqS:Stmt:=top 25
abbrev dqH:Stmt:=top 26
abbrev dqV:Stmt:=top 27
abbrev cqT:Stmt:=top 28
abbrev aq1:Stmt:=top 54
abbrev aq7:Stmt:=top 56
abbrev bqF:Stmt:=top 57
abbrev bqK:Stmt:=top 58
abbrev bq4:Stmt:=top 65
abbrev aq9:Stmt:=top 66
abbrev bql:Stmt:=top 68
abbrev bqq:Stmt:=top 69
abbrev dqG:Stmt:=top 4
abbrev cqV:Stmt:=top 23
abbrev fqf:Stmt:=top 34
abbrev bqZ:Stmt:=top 36
abbrev bq2:Stmt:=top 37
abbrev dqI:Stmt:=top 38
abbrev bqj:Stmt:=top 39
abbrev aqW:Stmt:=top 44
abbrev cqS:Stmt:=top 49
abbrev bq3:Stmt:=top 59
abbrev aqU:Stmt:=top 10
abbrev bq1:Stmt:=top 35
abbrev aqZ:Stmt:=top 45
abbrev bqG:Stmt:=top 48
abbrev bq5:Stmt:=top 60
abbrev jqf:Stmt:=top 33
abbrev bqm:Stmt:=top 43
abbrev bqI:Stmt:=top 52
abbrev bqL:Stmt:=top 61
abbrev bqH:Stmt:=top 64
abbrev gqE:Stmt:=top 32
abbrev cqU:Stmt:=top 42
abbrev bqN:Stmt:=top 63
abbrev bqk:Stmt:=top 67
abbrev aq6:Stmt:=top 41
abbrev jqn:Stmt:=top 51
abbrev bqJ:Stmt:=top 70
abbrev fqo:Stmt:=top 40
abbrev aqV:Stmt:=top 72
abbrev iq8:Stmt:=top 53
abbrev bq6:Stmt:=top 71
abbrev bqM:Stmt:=top 73
abbrev mqT:Stmt:=top 74
abbrev sqf:V:=.str (Str.ofString " !\"#$&'()*+,-./0123456789:;<=>?@ABCDEFGHIJKLMNOPQRSTUVWXYZ[\\]^_`abcdefghijklmnopqrstuvwxyz{|}~")
abbrev eqS:V:=.str (Str.ofString "abcdefghijklmnopqrstuvwxyz")
abbrev kqv:V:=.str (Str.ofString "0123456789")
abbrev pqC:V:=.int 0
abbrev oqh:V:=.int 1
abbrev tqZ:V:=.int 2
abbrev tqF:V:=.str (Str.ofString ".")
abbrev k_UP:V:=.str (Str.ofString "..")
abbrev cqM:V:=.int 0
abbrev mqC:V:=.int 1
abbrev hql:V:=.int 60
abbrev iqB:V:=.int 60
def cqn:List (Str × PyData):=[(Str.ofString "step",.int 6),(Str.ofString "part",.int 5),(Str.ofString "number",.int 4),(Str.ofString "word",.int 3),(Str.ofString "gap",.int 2),(Str.ofString "rest",.int 1)]
set_option genInjectivity false
set_option genSizeOf false
set_option genSizeOfSpec false
structure G (w:World) (K:W.Frag) (mg:Str->Option Value) where
 gqi:Addr
 fqw:FuncData
 fqb:Fun K "made_of" "made_of" dqD gqi fqw
 gqq:mg "made_of" = some (.ref gqi)
 fqU:Binds K fqw ["text","signs"] []
 bqn:Addr
 bqc:FuncData
 bqY:Fun K "is_whole_number" "is_whole_number" aqM bqn bqc
 dqB:mg "is_whole_number" = some (.ref bqn)
 dqO:Binds K bqc ["thing"] []
 bqb:Addr
 aq3:FuncData
 dqw:Fun K "__init__" "NoValue.__init__" aqG bqb aq3
 bqS:Binds K aq3 ["self","name"] []
 hqo:Addr
 fq8:FuncData
 gql:Fun K "is_dot" "is_dot" fqg hqo fq8
 hqA:mg "is_dot" = some (.ref hqo)
 hqt:Binds K fq8 ["step"] []
 hqp:Addr
 gqd:FuncData
 gqg:Fun K "is_gap" "is_gap" fqq hqp gqd
 hqu:mg "is_gap" = some (.ref hqp)
 hqr:Binds K gqd ["piece"] []
 gqo:Addr
 fqj:FuncData
 dqU:Fun K "name_of" "name_of" dqS gqo fqj
 eq5:mg "name_of" = some (.ref gqo)
 eq9:Binds K fqj ["gap"] []
 fqY:Addr
 fqu:FuncData
 cq4:Fun K "head_of" "head_of" dqH fqY fqu
 dqC:mg "head_of" = some (.ref fqY)
 dqL:Binds K fqu ["piece"] []
 fq3:Addr
 fqm:FuncData
 cq1:Fun K "tail_of" "tail_of" dqV fq3 fqm
 dqX:mg "tail_of" = some (.ref fq3)
 dqM:Binds K fqm ["piece"] []
 fqx:Addr
 eqm:FuncData
 gqB:Fun K "has_rest" "has_rest" cqT fqx eqm
 iqV:mg "has_rest" = some (.ref fqx)
 iq1:Binds K eqm ["pattern"] []
 bqU:Addr
 bqv:FuncData
 cq8:Fun K "pattern_named" "pattern_named" aq1 bqU bqv
 eqG:mg "pattern_named" = some (.ref bqU)
 fqe:Binds K bqv ["table","name"] []
 cqe:Addr
 bqO:FuncData
 aqY:Fun K "_law_cell_at" "_law_cell_at" aq7 cqe bqO
 aq5:mg "_law_cell_at" = some (.ref cqe)
 aq8:Binds K bqO ["_law_script","_law_k"] []
 dqs:Addr
 cqw:FuncData
 dqf:Fun K "_law_names" "_law_names" bqF dqs cqw
 eq2:mg "_law_names" = some (.ref dqs)
 eqN:Binds K cqw ["_law_cell","_law_many"] []
 dqa:Addr
 cqy:FuncData
 eqY:Fun K "_law_signs" "_law_signs" bqK dqa cqy
 gqZ:mg "_law_signs" = some (.ref dqa)
 gqW:Binds K cqy [] []
 dq7:Addr
 dql:FuncData
 fqG:Fun K "_law_gaps" "_law_gaps" bq4 dq7 dql
 iqd:mg "_law_gaps" = some (.ref dq7)
 hqZ:Binds K dql ["_law_pattern_here"] []
 bq8:Addr
 bqQ:FuncData
 dqy:Fun K "_law_name_of" "_law_name_of" aq9 bq8 bqQ
 fqB:mg "_law_name_of" = some (.ref bq8)
 fqE:Binds K bqQ ["_law_piece_here"] []
 cqK:Addr
 cqf:FuncData
 cqF:Fun K "_law_filled" "_law_filled" bql cqK cqf
 eqi:mg "_law_filled" = some (.ref cqK)
 dq1:Binds K cqf ["_law_pattern_here","_law_values_here"] []
 cqG:Addr
 cqg:FuncData
 cqH:Fun K "_law_worths" "_law_worths" bqq cqG cqg
 eqc:mg "_law_worths" = some (.ref cqG)
 eqa:Binds K cqg ["_law_pattern_here"] []
 gqu:Addr
 fqk:FuncData
 iqj:Fun K "is_text" "is_text" dqG gqu fqk
 kqV:mg "is_text" = some (.ref gqu)
 kqo:Binds K fqk ["thing"] []
 fqn:Addr
 dq4:FuncData
 gqG:Fun K "names_of" "names_of" cqV fqn dq4
 iq4:mg "names_of" = some (.ref fqn)
 iq3:Binds K dq4 ["pieces"] []
 hqD:Addr
 gqr:FuncData
 kqe:Fun K "spread" "spread" fqf hqD gqr
 lq9:mg "spread" = some (.ref hqD)
 mqi:Binds K gqr ["pattern","count"] []
 dq5:Addr
 dqn:FuncData
 fqL:Fun K "fits_part" "fits_part" bqZ dq5 dqn
 hqN:mg "fits_part" = some (.ref dq5)
 iqo:Binds K dqn ["part","step"] []
 eqh:Addr
 dqd:FuncData
 fqN:Fun K "is_number" "is_number" bq2 eqh dqd
 iqk:mg "is_number" = some (.ref eqh)
 hqM:Binds K dqd ["text"] []
 fqR:Addr
 fqr:FuncData
 gqf:Fun K "is_word" "is_word" dqI fqR fqr
 hqT:mg "is_word" = some (.ref fqR)
 iqs:Binds K fqr ["text"] []
 cqN:Addr
 cqc:FuncData
 eqe:Fun K "bound_value" "bound_value" bqj cqN cqc
 fqZ:mg "bound_value" = some (.ref cqN)
 fq5:Binds K cqc ["gap","steps"] []
 bqB:Addr
 bqo:FuncData
 cqp:Fun K "steps_of_value" "steps_of_value" aqW bqB bqo
 eqA:mg "steps_of_value" = some (.ref bqB)
 eqx:Binds K bqo ["gap","value"] []
 fqh:Addr
 dqZ:FuncData
 cqQ:Fun K "worth_of" "worth_of" cqS fqh dqZ
 dqP:mg "worth_of" = some (.ref fqh)
 dqK:Binds K dqZ ["piece"] []
 eqj:Addr
 dqo:FuncData
 bq7:Fun K "_law_text" "_law_text" bq3 eqj dqo
 cq0:mg "_law_text" = some (.ref eqj)
 cqX:Binds K dqo ["_law_cell"] []
 bqA:Addr
 bqp:FuncData
 bqx:Fun K "is_filled_text" "is_filled_text" aqU bqA bqp
 cqs:mg "is_filled_text" = some (.ref bqA)
 cqt:Binds K bqp ["thing"] []
 dq0:Addr
 dqx:FuncData
 fqI:Fun K "step_fits" "step_fits" bq1 dq0 dqx
 iqn:mg "step_fits" = some (.ref dq0)
 hq7:Binds K dqx ["piece","step"] []
 bqR:Addr
 bqC:FuncData
 cq3:Fun K "refuse_others" "refuse_others" aqZ bqR bqC
 eqI:mg "refuse_others" = some (.ref bqR)
 eqF:Binds K bqC ["pattern","values"] []
 dqi:Addr
 cqx:FuncData
 eq8:Fun K "worth_more" "worth_more" bqG dqi cqx
 gq0:mg "worth_more" = some (.ref dqi)
 hqi:Binds K cqx ["one","other"] []
 eqb:Addr
 dqm:FuncData
 cq6:Fun K "_law_step" "_law_step" bq5 eqb dqm
 eqg:mg "_law_step" = some (.ref eqb)
 eqo:Binds K dqm ["_law_cell"] []
 mqw:Addr
 jqZ:FuncData
 mqQ:Fun K "fits" "fits" jqf mqw jqZ
 pqq:mg "fits" = some (.ref mqw)
 oq1:Binds K jqZ ["pattern","way"] []
 cqA:Addr
 cqb:FuncData
 eqs:Fun K "can_be_step" "can_be_step" bqm cqA cqb
 gqe:mg "can_be_step" = some (.ref cqA)
 fq7:Binds K cqb ["thing"] []
 dqp:Addr
 cqC:FuncData
 eqX:Fun K "worth_most" "worth_most" bqI dqp cqC
 hqa:mg "worth_most" = some (.ref dqp)
 gq2:Binds K cqC ["entries"] []
 dqh:Addr
 cqO:FuncData
 fqa:Fun K "_law_piece" "_law_piece" bqL dqh cqO
 gq1:mg "_law_piece" = some (.ref dqh)
 hqc:Binds K cqO ["_law_cell","_law_name"] []
 dqc:Addr
 cqz:FuncData
 eqM:Fun K "_law_value" "_law_value" bqH dqc cqz
 hqd:mg "_law_value" = some (.ref dqc)
 gq9:Binds K cqz ["_law_piece_here","_law_cell"] []
 jqA:Addr
 hqv:FuncData
 lqJ:Fun K "bound" "bound" gqE jqA hqv
 nq3:mg "bound" = some (.ref jqA)
 nqQ:Binds K hqv ["pattern","way"] []
 fqv:Addr
 eqq:FuncData
 gqJ:Fun K "is_value" "is_value" cqU fqv eqq
 iq7:mg "is_value" = some (.ref fqv)
 iqR:Binds K eqq ["gap","value"] []
 dqg:Addr
 cqI:FuncData
 eq3:Fun K "_law_small" "_law_small" bqN dqg cqI
 gq4:mg "_law_small" = some (.ref dqg)
 gq6:Binds K cqI ["_law_cell","_law_names_here"] []
 cqP:Addr
 cqh:FuncData
 eql:Fun K "_law_values" "_law_values" bqk cqP cqh
 gqa:mg "_law_values" = some (.ref cqP)
 gqt:Binds K cqh ["_law_pattern_here","_law_cells"] []
 cqi:Addr
 bqV:FuncData
 dqz:Fun K "filled_steps" "filled_steps" aq6 cqi bqV
 fqC:mg "filled_steps" = some (.ref cqi)
 fqz:Binds K bqV ["piece","values"] []
 mqL:Addr
 jqR:FuncData
 nqL:Fun K "lead" "lead" jqn mqL jqR
 rqd:mg "lead" = some (.ref mqL)
 rqm:Binds K jqR ["table","way"] []
 dqv:Addr
 cqD:FuncData
 eqR:Fun K "_law_table" "_law_table" bqJ dqv cqD
 hqf:mg "_law_table" = some (.ref dqv)
 gqX:Binds K cqD ["_law_script","_law_names_here","_law_labels","_law_first","_law_many"] []
 hqz:Addr
 fqV:FuncData
 jqw:Fun K "filled" "filled" fqo hqz fqV
 mqy:mg "filled" = some (.ref hqz)
 mqk:Binds K fqV ["pattern","values"] []
 bqy:Addr
 bqi:FuncData
 cqo:Fun K "_law_led_right" "_law_led_right" aqV bqy bqi
 eqC:mg "_law_led_right" = some (.ref bqy)
 eqy:Binds K bqi ["_law_table_here","_law_name","_law_values_here","_law_way"] []
 mqf:Addr
 kqa:FuncData
 pqw:Fun K "made" "made" iq8 mqf kqa
 rqi:mg "made" = some (.ref mqf)
 rql:Binds K kqa ["table","name","values"] []
 eqk:Addr
 dqk:FuncData
 bq0:Fun K "_law_told" "_law_told" bq6 eqk dqk
 cq7:mg "_law_told" = some (.ref eqk)
 cq5:Binds K dqk ["_law_table_here","_law_name","_law_values_here"] []
 dqq:Addr
 cqE:FuncData
 fqd:Fun K "_law_asked" "_law_asked" bqM dqq cqE
 hqe:mg "_law_asked" = some (.ref dqq)
 gq8:Binds K cqE ["_law_table_here","_law_k","_law_cell"] []
 qqd:Addr
 kqU:FuncData
 tq9:Fun K "law" "law" mqT qqd kqU
 uq4:mg "law" = some (.ref qqd)
 uq1:Binds K kqU ["_law_script"] []
 hqH:Tok
 pqy:mg "SIGNS" = some (.str (Str.ofString " !\"#$&'()*+,-./0123456789:;<=>?@ABCDEFGHIJKLMNOPQRSTUVWXYZ[\\]^_`abcdefghijklmnopqrstuvwxyz{|}~") hqH)
 bqg:Tok
 eq7:mg "SMALL_LETTERS" = some (.str (Str.ofString "abcdefghijklmnopqrstuvwxyz") bqg)
 eqO:Tok
 lqk:mg "FIGURES" = some (.str (Str.ofString "0123456789") eqO)
 fqS:Tok
 lq8:mg "ROOTED" = some (.int 0 fqS)
 iqg:Tok
 lqQ:mg "STEPS" = some (.int 1 iqg)
 lql:Tok
 qq9:mg "ENDS" = some (.int 2 lql)
 kq3:Tok
 qq5:mg "STAY" = some (.str (Str.ofString ".") kq3)
 t_UP:Tok
 c_UP:mg "UP" = some (.str (Str.ofString "..") t_UP)
 gqn:Tok
 cqj:mg "PIECES" = some (.int 0 gqn)
 fqP:Tok
 jqG:mg "CLOSES" = some (.int 1 fqP)
 aq4:Tok
 eqD:mg "LONGEST_NUMBER" = some (.int 60 aq4)
 bqt:Tok
 fqD:mg "LONGEST_WORD" = some (.int 60 bqt)
 bqz:Addr
 equ:mg "WORTH_OF_WORDS" = some (.ref bqz)
 eqz:∀ (P:Program) (h:Heap),K.In h->PyProof.Rows.StrTab P w h bqz (cqn.map fun p => (PyData.str p.1,p.2))
 qqy:mg "all" = none
 bqh:mg "isinstance" = none
 rqa:mg "bool" = none
 rqT:mg "int" = none
 bqa:mg "len" = none
 dq6:mg "range" = none
 iqt:mg "tuple" = none
 oqI:mg "str" = none
 rqp:mg "dict" = none
 mqu:mg "list" = none
 sqp:mg "zip" = none
 dq3:mg "enumerate" = none
 cqa:Addr
 jqE:mg "NoName" = some (.ref cqa)
 aqD:Addr
 gqb:mg "NoValue" = some (.ref aqD)
 mqM:W.excIn K cqa vErr vNew=true
 mqN:Catch K cqa
 kqL:Catch K aqD
 qqv:ExLook K cqa
 oqC:ExLook K aqD
 iqh:Mk1 K aqD bqb
 eq6:ExSt K aqD "name"
 eqK:ExFld K aqD "name"
 eqT:W.subIn K (.ref cqa) (.ref cqa)=some true
 dqY:W.subIn K (.ref aqD) (.ref aqD)=some true
 eqB:W.subIn K (.ref aqD) (.ref cqa)=some false
def nqo:Sp:=fun vs H Q _ => ∃ x y:Str,vs=[.str x,.str y]∧x.length ≤ 100000∧∀ H',Same H H'->Q (.bl (x.cps.toList.all fun c => decide (c ∈ y.cps.toList))) H'
def fq6:Sp:=fun vs H Q _ => ∃ (d:PyData) (v:V),vs=[v]∧Is H d v∧Q (.bl (match d with | .int _ => true | _ => false)) H
def bqE (K:W.Frag) (C:Addr):Sp:=fun vs H Q _ => ∃ (a:Addr) (v:V),vs=[.ref a,v]∧H a=some (exNew a C)∧∀ d,H d=none->Q .non (upd (upd H a (exSet a C d)) d (.xd [("name",v)]))
theorem iqY {K:W.Frag}{C:Addr}{H:Hp}{E:XK}{v:V} (hE:∀ d H',Same H H'->H' d=some (.xd [("name",v)])->E (.ref C) (some d) H'):∀ a,H a=none->bqE K C [.ref a,v] (upd H a (exNew a C)) (fun u H2 => u=.non∧∃ d,H2 a=some (exSet a C d)∧E (.ref C) (some d) (forget H2 a)) E0:=by
 intro a ha
 refine ⟨a,v,rfl,aqk,fun d hd => ?_⟩
 have hda:d ≠ a:=fun z => by rw [z,aqk] at hd; cases hd
 rw [aqq hda] at hd
 refine ⟨rfl,d,by rw [aqq hda.symm,aqk],hE d _ (fun b o e => ?_) ?_⟩
 ·have ba:b ≠ a:=aql e ha
  rw [bqP ba,aqq (aql e hd),aqq ba,aqq ba]
  exact e
 ·rw [bqP hda,aqk]
def kq2:Sp:=fun vs H Q _ => ∃ s:Stp,vs=[sV s]∧Q (.bl (isDot s)) H
def oq5 (K:W.Frag):Sp:=fun vs H Q _ => ∃ (c:Pc) (p:Addr),vs=[.ref p]∧SqT K H p c.vals∧Q (.bl (!c.isStep)) H
def jql (K:W.Frag):Sp:=fun vs H Q _ => ∃ (c:Pc) (p:Addr),vs=[.ref p]∧SqT K H p c.vals∧c.isStep=false∧Q (tV c.name) H
def iq9 (K:W.Frag):Sp:=fun vs H Q _ => ∃ (c:Pc) (p:Addr),vs=[.ref p]∧SqT K H p c.vals∧Q (tV c.head) H
def jqc (K:W.Frag):Sp:=fun vs H Q _ => ∃ (c:Pc) (p:Addr),vs=[.ref p]∧SqT K H p c.vals∧Q (tV c.tail) H
def lqS (K:W.Frag):Sp:=fun vs H Q _ => ∃ (cs:List Pc) (xs:List V) (p q:Addr) (e:Bool),vs=[.ref p]∧SqT K H p [.ref q,.bl e]∧SqT K H q xs∧PcAll K H cs xs∧cs.length ≤ 1000∧Q (.bl (hasRest cs)) H
def gqL (K:W.Frag) (CN:Addr):Sp:=fun vs H Q E => ∃ (l:Addr) (T:List Rw) (ws:List V) (n:List Nat),vs=[.ref l,tV n]∧H l=some (.lst ws)∧TbV H T ws∧(∀ t,T.find? (fun t => decide (t.1=n))=some t->∀ (p:Addr) (H':Hp),Same H H'->PtAt H' t.2.1 t.2.2 p->Q (.ref p) H')∧(T.find? (fun t => decide (t.1=n))=none->∀ H',Same H H'->E (.ref CN) none H')
def iqw (K:W.Frag):Sp:=fun vs H Q _ => ∃ (a:Addr) (ns:List Int) (k:Nat),vs=[.ref a,.int (k:Int)]∧SqL K H a (ns.map V.int)∧Q (.int (ns.getD k 0)) H
def jqH (K:W.Frag):Sp:=fun vs H Q _ => ∃ (c:Int) (m:Nat),vs=[.int c,.int (m:Int)]∧m ≤ 26∧∀ (ns:List (List Nat)) (p:Addr) (H':Hp),ns.length=m->(∀ n ∈ ns,0 < n.length∧n.length ≤ 8∧n.all isSma=true)->ns.Nodup->Same H H'->H' p=some (.lst (ns.map tV))->Q (.ref p) H'
def gqp:Sp:=fun vs H Q _ => vs=[]∧Q (.str ⟨SG.toArray⟩) H
def kqZ (K:W.Frag):Sp:=fun vs H Q _ => ∃ (cs:List Pc) (e:Bool) (p:Addr),vs=[.ref p]∧PtAt H cs e p∧cs.length ≤ 90∧∀ (l:Addr) (ys:List V) (H':Hp),H l=none->Same H H'->H' l=some (.lst ys)->PcT H' (cs.filter fun c => !c.isStep) ys->Q (.ref l) H'
def hqW (K:W.Frag):Sp:=fun vs H Q _ => ∃ (c:Pc) (p:Addr),vs=[.ref p]∧SqT K H p c.vals∧c.isStep=false∧Q (tV c.name) H
def iqy (K:W.Frag):Sp:=fun vs H Q _ => ∃ (cs:List Pc) (e:Bool) (p l l0:Addr) (bs:List (List Nat × Vl)) (ys:List V),vs=[.ref p,.ref l]∧PtAt H cs e p∧(∀ c ∈ cs,PcOk c)∧LastR cs∧cs.length ≤ 12∧GvA cs bs∧(gapsM cs).Nodup∧H l=some (.lst ys)∧BndV H l0 bs ys∧∀ (pw ps:Addr) (H':Hp),Same H H'->H' pw=some (.tup [.bl true,.ref ps,.bl e])->H' ps=some (.tup ((stpsM cs bs).map tV))->Q (.ref pw) H'
def iqN (K:W.Frag):Sp:=fun vs H Q _ => ∃ (cs:List Pc) (e:Bool) (p:Addr),vs=[.ref p]∧PtAt H cs e p∧PcsOk cs∧∀ (l:Addr) (us:List V) (H':Hp),Same H H'->H' l=some (.lst us)->IsAll H' ((cs.map worthL ++ [[6]]).map intsD) us->Q (.ref l) H'
def nql:Sp:=fun vs H Q _ => ∃ (d:PyData) (v:V),vs=[v]∧Is H d v∧smallD d=true∧∀ H',Same H H'->Q (.bl (tx d)) H'
def lqy (K:W.Frag):Sp:=fun vs H Q _ => ∃ (cs:List Pc) (xs:List V) (q:Addr),vs=[.ref q]∧SqT K H q xs∧PcAll K H cs xs∧cs.length ≤ 1000∧∀ (p:Addr) (H':Hp),Same H H'->H' p=some (.lst ((gapsM cs).map tV))->Q (.ref p) H'
def nqE (K:W.Frag):Sp:=fun vs H Q _ => ∃ (cs:List Pc) (xs:List V) (p q:Addr) (e:Bool) (n:Nat),vs=[.ref p,.int (n:Int)]∧SqT K H p [.ref q,.bl e]∧H q=some (.tup xs)∧PcAll K H cs xs∧cs.length ≤ 100∧n ≤ 500∧(spreadM cs n=none->Q .non H)∧∀ (ds:List Pc) (ys:List V) (r:Addr) (H':Hp),spreadM cs n=some ds->Same H H'->SqT K H' r ys->PcAll K H' ds ys->Q (.ref r) H'
def kqO (K:W.Frag):Sp:=fun vs H Q _ => ∃ (h n t s:List Nat) (p:Addr),vs=[.ref p,tV s]∧SqT K H p (Pc.part h n t).vals∧s.length ≤ 100000∧h.length ≤ 100000∧t.length ≤ 100000∧Q (.bl (partB h t s)) H
def kq4:Sp:=fun vs H Q _ => ∃ (l:List Nat),vs=[tV l]∧l.length ≤ 100000∧∀ H',Same H H'->Q (.bl (numB l)) H'
def nqg:Sp:=fun vs H Q _ => ∃ (l:List Nat),vs=[tV l]∧l.length ≤ 100000∧∀ H',Same H H'->Q (.bl (wordB l)) H'
def iqJ (K:W.Frag):Sp:=fun vs H Q _ => ∃ (c:Pc) (s:List Nat) (ss:List (List Nat)) (p q:Addr),vs=[.ref p,.ref q]∧SqT K H p c.vals∧H q=some (.tup ((s :: ss).map tV))∧fitsM c s=true∧s.length ≤ 100000∧c.head.length ≤ 100000∧c.tail.length ≤ 100000∧ss.length ≤ 1000∧∀ v H',Same H H'->VlV H' (bvM c (s :: ss)) v->(∀ q,v=.ref q->H q=none)->Q v H'
def gqM (K:W.Frag):Sp:=fun vs H Q _ => ∃ (c:Pc) (p:Addr) (d:PyData) (v:V),vs=[.ref p,v]∧SqT K H p c.vals∧c.isStep=false∧c.head.length ≤ 100000∧c.tail.length ≤ 100000∧Is H d v∧smallD d=true∧isValD c d=true∧∀ (q:Addr) (H':Hp),Same H H'->H' q=some (.lst ((stpsD c d).map tV))->Q (.ref q) H'
def lqv (K:W.Frag):Sp:=fun vs H Q _ => ∃ (c:Pc) (p:Addr),vs=[.ref p]∧SqT K H p c.vals∧PcTx c∧∀ (r:Addr) (H':Hp),Same H H'->H' r=some (.tup ((worthM c).map V.int))->Q (.ref r) H'
def kq7 (K:W.Frag):Sp:=fun vs H Q _ => ∃ c:Int,vs=[.int c]∧∀ (l:List Nat) (H':Hp),l.length ≤ 4->(∀ c ∈ l,isSg c=true)->Same H H'->Q (tV l) H'
def gqI:Sp:=fun vs H Q _ => ∃ (d:PyData) (v:V),vs=[v]∧Is H d v∧smallD d=true∧∀ H',Same H H'->Q (.bl (ftx d)) H'
def kqD (K:W.Frag):Sp:=fun vs H Q _ => ∃ (c:Pc) (s:List Nat) (p:Addr),vs=[.ref p,tV s]∧SqT K H p c.vals∧s.length ≤ 100000∧c.head.length ≤ 100000∧c.tail.length ≤ 100000∧∀ H',Same H H'->Q (.bl (fitsM c s)) H'
def gqA (K:W.Frag) (CN:Addr):Sp:=fun vs H Q E => ∃ (cs:List Pc) (xs:List V) (p q pz:Addr) (cl:Bool) (ws:List (List Nat × PyData)) (ys:List V),vs=[.ref p,.ref pz]∧SqT K H p [.ref q,.bl cl]∧SqT K H q xs∧PcAll K H cs xs∧cs.length ≤ 100∧H pz=some (.lst ys)∧VlsV H ws ys∧ws.length ≤ 100000 ∧
 (otherM cs ws=none->∀ H',Same H H'->Q .non H')∧∀ n,otherM cs ws=some n->∀ d H',Same H H'->H' d=some (.xd [("name",tV n)])->E (.ref CN) (some d) H'
def jqV (K:W.Frag):Sp:=fun vs H Q _ => ∃ (cs ds:List Pc) (xs ys:List V) (p q p' q':Addr) (e e':Bool),vs=[.ref p,.ref p']∧SqT K H p [.ref q,.bl e]∧SqT K H q xs∧PcAll K H cs xs∧SqT K H p' [.ref q',.bl e']∧SqT K H q' ys∧PcAll K H ds ys∧cs.length ≤ 90∧ds.length ≤ 90∧(∀ c ∈ cs,PcTx c)∧(∀ c ∈ ds,PcTx c)∧∀ H',Same H H'->Q (.bl (moreM cs ds)) H'
def lqe (K:W.Frag):Sp:=fun vs H Q _ => ∃ c:Int,vs=[.int c]∧∀ (l:List Nat) (H':Hp),0 < l.length->l.length ≤ 5->(∀ c ∈ l,isSg c=true)->isDot l=false->Same H H'->Q (tV l) H'
def rqZ (K:W.Frag):Sp:=fun vs H Q _ => ∃ (cs:List Pc) (xs:List V) (p q pw ps:Addr) (cl r e:Bool) (ss:List (List Nat)),vs=[.ref p,.ref pw]∧SqT K H p [.ref q,.bl cl]∧H q=some (.tup xs)∧PcAll K H cs xs∧cs.length ≤ 100∧PcSz cs∧SqT K H pw [.bl r,.ref ps,.bl e]∧SqT K H ps (ss.map tV)∧ss.length ≤ 500∧(∀ s ∈ ss,s.length ≤ 100000)∧∀ H',Same H H'->Q (.bl (fitsP cs cl r ss e)) H'
def iqG (K:W.Frag):Sp:=fun vs H Q _ => ∃ (d:PyData) (v:V),vs=[v]∧Is H d v∧smallD d=true∧∀ H',Same H H'->Q (.bl (canD d)) H'
def kqi (K:W.Frag):Sp:=fun vs H Q _ => ∃ (l:Addr) (b:Rw) (L:List Rw) (ws:List V),vs=[.ref l]∧H l=some (.lst ws)∧TbV H (b :: L) ws∧(∀ r ∈ b :: L,PcsOk r.2.1)∧L.length ≤ 90∧∀ (v:V) (H':Hp),Same H H'->RwAt H' (mostM mrR b L) v->Q v H'
def jqv (K:W.Frag):Sp:=fun vs H Q _ => ∃ (c:Int) (n:List Nat),vs=[.int c,tV n]∧∀ (pc:Pc) (p:Addr) (H':Hp),PcOk pc->pc.isRest=false->(pc.isStep=false->pc.name=n)->Same H H'->H' p=some (.tup pc.vals)->Q (.ref p) H'
def jqt (K:W.Frag):Sp:=fun vs H Q _ => ∃ (c:Pc) (p:Addr) (i:Int),vs=[.ref p,.int i]∧H p=some (.tup c.vals)∧PcOk c∧c.isStep=false∧∀ (x:Vl) (v:V) (H':Hp),GvOk c x->SmV x->Same H H'->VlV H' x v->(∀ q,v=.ref q->H q=none)->Q v H'
def pqX (K:W.Frag):Sp:=fun vs H Q _ => ∃ (cs:List Pc) (xs:List V) (p q pw ps:Addr) (cl r e:Bool) (ss:List (List Nat)),vs=[.ref p,.ref pw]∧SqT K H p [.ref q,.bl cl]∧H q=some (.tup xs)∧PcAll K H cs xs∧cs.length ≤ 100∧PcSz cs∧SqT K H pw [.bl r,.ref ps,.bl e]∧H ps=some (.tup (ss.map tV))∧ss.length ≤ 500∧(∀ s ∈ ss,s.length ≤ 100000) ∧
 (fitsP cs cl r ss e=false->∀ H',Same H H'->Q .non H')∧(fitsP cs cl r ss e=true->∀ (l:Addr) (ys:List V) (H':Hp),H l=none->FrB H H' ys->Same H H'->H' l=some (.lst ys)->BndV H' l (boundM cs ss) ys->Q (.ref l) H')
def lq4 (K:W.Frag):Sp:=fun vs H Q _ => ∃ (c:Pc) (p:Addr) (d:PyData) (v:V),vs=[.ref p,v]∧SqT K H p c.vals∧c.isStep=false∧c.head.length ≤ 100000∧c.tail.length ≤ 100000∧Is H d v∧smallD d=true∧∀ H',Same H H'->Q (.bl (isValD c d)) H'
def jqT (K:W.Frag):Sp:=fun vs H Q _ => ∃ (c:Int) (pn:Addr) (ns:List (List Nat)),vs=[.int c,.ref pn]∧H pn=some (.lst (ns.map tV))∧5 ≤ ns.length∧ns.length ≤ 100∧(∀ n ∈ ns,∀ x ∈ n,isSg x=true)∧∀ (ps:List Pc) (e:Bool) (p:Addr) (H':Hp),(∀ c ∈ ps,PcOk c∧PcSg c)->LastR ps->NmP ns ps->ps.length ≤ 5->Same H H'->PtAt H' ps e p->Q (.ref p) H'
def iqM (K:W.Frag):Sp:=fun vs H Q _ => ∃ (cs:List Pc) (e:Bool) (p pc:Addr) (is:List Int),vs=[.ref p,.ref pc]∧PtAt H cs e p∧(∀ c ∈ cs,PcOk c)∧cs.length ≤ 12∧SqL K H pc (is.map V.int)∧0 < is.length∧is.length ≤ 100∧∀ (bs:List (List Nat × Vl)) (l:Addr) (ys:List V) (H':Hp),GvA cs bs->(∀ b ∈ bs,SmV b.2)->H l=none->FrB H H' ys->Same H H'->H' l=some (.lst ys)->BndV H' l bs ys->Q (.ref l) H'
def hqk (K:W.Frag) (CN:Addr):Sp:=fun vs H Q E => ∃ (c:Pc) (p pz:Addr) (ws:List (List Nat × PyData)) (ys:List V),vs=[.ref p,.ref pz]∧SqT K H p c.vals∧c.head.length ≤ 100000∧c.tail.length ≤ 100000∧H pz=some (.lst ys)∧VlsV H ws ys∧ws.length ≤ 100000∧(∀ w ∈ ws,smallD w.2=true) ∧
 (∀ ss,fillS c ws=.ok ss->∀ (q:Addr) (H':Hp),Same H H'->H' q=some (.lst (ss.map tV))->Q (.ref q) H') ∧
 ∀ n,fillS c ws=.error n->∀ d H',Same H H'->H' d=some (.xd [("name",tV n)])->E (.ref CN) (some d) H'
def rqW (K:W.Frag):Sp:=fun vs H Q _ => ∃ (l pw ps:Addr) (T:List Rw) (ws:List V) (r e:Bool) (ss:List (List Nat)),vs=[.ref l,.ref pw]∧H l=some (.lst ws)∧TbV H T ws∧(∀ t ∈ T,PcsOk t.2.1)∧T.length ≤ 90∧H pw=some (.tup [.bl r,.ref ps,.bl e])∧H ps=some (.tup (ss.map tV))∧ss.length ≤ 500∧(∀ s ∈ ss,s.length ≤ 100000) ∧
 (T.filter (fitR r e ss)=[]->∀ H',Same H H'->Q .non H')∧∀ (b:Rw) (L:List Rw),T.filter (fitR r e ss)=b :: L->∀ (p l':Addr) (ys:List V) (H':Hp),H l'=none->Same H H'->H' p=some (.tup [tV (mostM mrR b L).1,.ref l'])->H' l'=some (.lst ys)->BndV H' l' (boundM (mostM mrR b L).2.1 ss) ys->Q (.ref p) H'
def jqW (K:W.Frag):Sp:=fun vs H Q _ => ∃ (a pn pl:Addr) (ns:List Int) (nm lb:List (List Nat)) (m:Nat),vs=[.ref a,.ref pn,.ref pl,.int 3,.int (m:Int)]∧SqL K H a (ns.map V.int)∧H pn=some (.lst (nm.map tV))∧nm.length=6∧(∀ n ∈ nm,∀ x ∈ n,isSg x=true)∧H pl=some (.lst (lb.map tV))∧16 ≤ lb.length∧(∀ n ∈ lb,∀ x ∈ n,isSg x=true)∧m ≤ 16∧∀ (T:List Rw) (ws:List V) (l:Addr) (H':Hp),H l=none->Same H H'->H' l=some (.lst ws)->TbV H' T ws->TabOk T->T.length=m->(∀ t ∈ T,NmP nm t.2.1)->T.map (·.1)=lb.take m->Q (.ref l) H'
def mq7 (K:W.Frag) (CN:Addr):Sp:=fun vs H Q E => ∃ (cs:List Pc) (xs:List V) (p q pz:Addr) (cl:Bool) (ws:List (List Nat × PyData)) (ys:List V),vs=[.ref p,.ref pz]∧SqT K H p [.ref q,.bl cl]∧SqT K H q xs∧PcAll K H cs xs∧cs.length ≤ 100∧PcSz cs∧H pz=some (.lst ys)∧VlsV H ws ys∧ws.length ≤ 100000∧(∀ w ∈ ws,smallD w.2=true) ∧
 (∀ ss,fillM cs ws=.ok ss->∀ (pw qw:Addr) (H':Hp),Same H H'->H' qw=some (.tup (ss.map tV))->H' pw=some (.tup [.bl true,.ref qw,.bl cl])->Q (.ref pw) H')∧∀ n,fillM cs ws=.error n->∀ d H',Same H H'->H' d=some (.xd [("name",tV n)])->E (.ref CN) (some d) H'
def gqT (K:W.Frag):Sp:=fun vs H Q _ => ∃ (l lv l0 pw qw:Addr) (T:List Rw) (ws:List V) (kk:Nat) (t:Rw) (bs:List (List Nat × Vl)) (ys:List V),vs=[.ref l,tV t.1,.ref lv,.ref pw]∧H l=some (.lst ws)∧TbV H T ws∧TabOk T∧T.length ≤ 20∧(T.map (·.1)).Nodup∧(∀ t ∈ T,(gapsM t.2.1).Nodup)∧T[kk]?=some t∧GvA t.2.1 bs∧(∀ b ∈ bs,SmV b.2)∧H lv=some (.lst ys)∧BndV H l0 bs ys∧H pw=some (.tup [.bl true,.ref qw,.bl t.2.2])∧H qw=some (.tup ((stpsM t.2.1 bs).map tV))∧∀ H',Same H H'->Q (.bl true) H'
def qqO (K:W.Frag) (CN CV:Addr):Sp:=fun vs H Q E => ∃ (l lv:Addr) (T:List Rw) (ws:List V) (n:List Nat) (wz:List (List Nat × PyData)) (ys:List V),vs=[.ref l,tV n,.ref lv]∧H l=some (.lst ws)∧TbV H T ws∧(∀ t ∈ T,PcsOk t.2.1)∧H lv=some (.lst ys)∧VlsV H wz ys∧wz.length ≤ 100000∧(∀ w ∈ wz,smallD w.2=true) ∧
 (T.find? (fun t => decide (t.1=n))=none->∀ H',Same H H'->E (.ref CN) none H') ∧
 ∀ t,T.find? (fun t => decide (t.1=n))=some t->(∀ ss,fillM t.2.1 wz=.ok ss->∀ (pw qw:Addr) (H':Hp),Same H H'->H' qw=some (.tup (ss.map tV))->H' pw=some (.tup [.bl true,.ref qw,.bl t.2.2])->Q (.ref pw) H')∧∀ z,fillM t.2.1 wz=.error z->∀ d H',Same H H'->H' d=some (.xd [("name",tV z)])->E (.ref CV) (some d) H'
def kqN (K:W.Frag):Sp:=fun vs H Q _ => ∃ (l lv:Addr) (T:List Rw) (ws:List V) (n:List Nat) (wz:List (List Nat × PyData)) (ys:List V),vs=[.ref l,tV n,.ref lv]∧H l=some (.lst ws)∧TbV H T ws∧(∀ t ∈ T,PcsOk t.2.1)∧H lv=some (.lst ys)∧VlsV H wz ys∧wz.length ≤ 100000∧(∀ w ∈ wz,smallD w.2=true) ∧
 (T.find? (fun t => decide (t.1=n))=none->∀ (p:Addr) (H':Hp),Same H H'->H' p=some (.tup [.non,.str (Str.ofString "name")])->Q (.ref p) H') ∧
 ∀ t,T.find? (fun t => decide (t.1=n))=some t->(∀ ss,fillM t.2.1 wz=.ok ss->∀ (p pw qw:Addr) (H':Hp),Same H H'->H' qw=some (.tup (ss.map tV))->H' pw=some (.tup [.bl true,.ref qw,.bl t.2.2])->H' p=some (.tup [.ref pw,tV []])->Q (.ref p) H')∧∀ z,fillM t.2.1 wz=.error z->z.length ≤ 1000∧∀ (p:Addr) (H':Hp),Same H H'->H' p=some (.tup [.non,tV (z ++ [32,108,97,99,107,115])])->Q (.ref p) H'
def kqd (K:W.Frag):Sp:=fun vs H Q _ => ∃ (l:Addr) (T:List Rw) (ws:List V) (kk:Nat) (c:Int),vs=[.ref l,.int (kk:Int),.int c]∧H l=some (.lst ws)∧TbV H T ws∧TabOk T∧T.length ≤ 20∧(T.map (·.1)).Nodup∧(∀ t ∈ T,(gapsM t.2.1).Nodup∧[] ∉ gapsM t.2.1∧∀ n ∈ gapsM t.2.1,n.length ≤ 8)∧kk < T.length∧∀ H',Same H H'->Q (.bl true) H'
def mqz (K:W.Frag):Sp:=fun vs H Q _ => ∃ (a:Addr) (ns:List Int),vs=[.ref a]∧SqL K H a (ns.map V.int)∧ns.length ≤ 63∧∀ H',Q (.bl true) H'
section
variable {H:Hp}{Q:VK}{E:XK}{K:W.Frag}
theorem sqa:gqp [] H Q E ↔ Q (.str ⟨SG.toArray⟩) H:=⟨fun h => h.2,fun h => ⟨rfl,h⟩⟩
end
section
variable {P:Program}{w:World}{K:W.Frag}{mg:Str->Option Value}{base:Heap}
seal PE PA PT PS PSs PG PI PF PO PW
local macro_rules | `(tactic| walk_at "rd") => `(tactic| simp only [L2.start,List.map_cons,List.map_nil,List.length_cons,List.length_nil,Nat.reduceAdd,Nat.reduceSub,Nat.zero_add,List.replicate_succ,List.replicate_zero,L2.tq4,L2.rd_C,L2.tql,L2.tqS,L2.pqH,L2.uqE,L2.rqz,L2.tq3,L2.rqA,L2.uqM,L2.tqy,L2.sqP,L2.uqY,L2.sq1,L2.rd_B,L2.tqo,L2.uqR,L2.uqA,L2.sqB,L2.tqO,L2.rqM,L2.uqT,L2.pqJ,L2.uqr,L2.sqm,L2.tq6,L2.tqJ,L2.sqz,L2.rqX,L2.sq5,L2.cqq,L2.sq0,L2.rqI,L2.sqR,L2.qql,L2.sqx,L2.uqU,L2.uqX,L2.tqq,L2.uqW,L2.pqa,L2.tqc,L2.qqq,L2.rd_I,L2.qqx,L2.squ,L2.aqy,L2.sqb,L2.pqe,L2.jq9,L2.nqT,L2.sqr,L2.rqV,L2.qqG,L2.rqE,L2.rq7,L2.qqr,L2.tqY,L2.rqk,L2.uqK,L2.nq6,L2.uqB,L2.tqg,L2.pqF,L2.sqo,L2.qqU,L2.qqw,L2.oqX,L2.qqm,L2.qqj,L2.nqR,L2.mqW,L2.gqS,L2.hqj,L2.hqm,L2.gqU,L2.fq4,L2.kqh,L2.kqY,L2.kqK,L2.jq5,L2.iqD,L2.kqP,L2.lq5,L2.lqO,L2.lqp,L2.jq2,L2.lqo,L2.lqG,L2.lq1,L2.kqp,L2.jqP,L2.kql,L2.kqt,L2.kq0,L2.sub_list_list,L2.iqz,L2.iqI,L2.jqM,L2.jqq,L2.iqF,L2.sub_tuple_tuple,L2.rq8,L2.sqv,L2.pq6,L2.rqx,L2.sqw,L2.cx_K,L2.tqI,L2.tqK,L2.tqQ,L2.uqe,L2.tqx,L2.oqL,L2.uqC,L2.uqP,L2.uqs,L2.oq6,L2.uqQ,L2.uqZ,L2.uq7,L2.pq2,L2.pqV,L2.sql,L2.pqR,Option.getD_some,L2.uqG,L2.uqS,L2.rd_U,L2.tqP,L2.sqs,L2.qqz,L2.sqX,L2.lqP,L2.sqj,L2.tqC,L2.tqN,L2.sqW,L2.sqK,L2.sqq,L2.tqd,List.getElem?_cons_zero,List.getElem?_cons_succ,List.set_cons_zero,List.set_cons_succ,List.nil_append,List.cons_append,List.append_nil,Option.some.injEq,exists_eq_left,exists_eq_left',true_and,and_true,L2.V.bl.injEq,L2.V.int.injEq,L2.V.str.injEq,L2.V.ref.injEq,List.cons.injEq,reduceCtorEq,false_and,and_false,exists_false,false_or,or_false,decide_eq_true_eq,Bool.not_true,Bool.not_false,↓reduceIte,if_true,if_false,not_true_eq_false,not_false_eq_true,decide_true,decide_false,Bool.false_eq_true,sqa,L2.qqZ,L2.rqD,L2.pq7,L2.qqH,L2.tqp,uqq,L2.uql,L2.pqB,L2.uq2,L2.sq3,L2.pqE,L2.qqV,L2.qqb,L2.uq8,L2.oq8,L2.sqU,L2.tqk,L2.mqp,L2.uqf,L2.tqm,L2.sqh,L2.tqG,L2.uqx,L2.uqF,L2.sq6,L2.sqQ,L2.sqe,L2.sqn,L2.sqY,L2.nqZ,L2.pqj,L2.qqB,L2.nqf,L2.pqD,L2.mq6,L2.nqp,L2.mqp,L2.pqv,L2.rqw,L2.nqt,L2.tqR,L2.sqy,L2.rqQ,L2.pq0,L2.tqh,L2.sqD,L2.rqq,L2.rqG,L2.pqd,L2.nqS,L2.tqT,L2.qq4,L2.oql,L2.uqa,L2.oqe,L2.rqs,L2.sqC,L2.tqe,L2.qqo,L2.rqO,L2.sqT,L2.rqu,uqb,qqN,dqr,bqr,rq0,sqH,List.drop_succ_cons,List.drop_zero,L2.pqY,L2.uqy,L2.uqn,L2.tqA,Bool.not_eq_true',decide_eq_false_iff_not])
theorem mq1:FnScope ["text","signs"] ["text","signs"] (defScope dqD):=⟨rfl,rfl,rfl,by decide +kernel,rfl,by decide +kernel,by decide +kernel⟩
theorem fq1:FnScope ["thing"] ["thing"] (defScope aqM):=⟨rfl,rfl,rfl,by decide +kernel,rfl,by decide +kernel,by decide +kernel⟩
theorem fqH:FnScope ["self","name"] ["self","name"] (defScope aqG):=⟨rfl,rfl,rfl,by decide +kernel,rfl,by decide +kernel,by decide +kernel⟩
theorem pqi:FnScope ["step"] ["step"] (defScope fqg):=⟨rfl,rfl,rfl,by decide +kernel,rfl,by decide +kernel,by decide +kernel⟩
theorem pqk:FnScope ["piece"] ["piece"] (defScope fqq):=⟨rfl,rfl,rfl,by decide +kernel,rfl,by decide +kernel,by decide +kernel⟩
theorem nqB:FnScope ["gap"] ["gap"] (defScope dqS):=⟨rfl,rfl,rfl,by decide +kernel,rfl,by decide +kernel,by decide +kernel⟩
theorem nqj:FnScope ["piece"] ["piece"] (defScope dqH):=⟨rfl,rfl,rfl,by decide +kernel,rfl,by decide +kernel,by decide +kernel⟩
theorem mqU:FnScope ["piece"] ["piece"] (defScope dqV):=⟨rfl,rfl,rfl,by decide +kernel,rfl,by decide +kernel,by decide +kernel⟩
theorem iql:FnScope ["pattern","pieces"] ["pattern"] (defScope cqT):=⟨rfl,rfl,rfl,by decide +kernel,rfl,by decide +kernel,by decide +kernel⟩
theorem cqr:FnScope ["table","name","entry_name","pattern"] ["table","name"] (defScope aq1):=⟨rfl,rfl,rfl,by decide +kernel,rfl,by decide +kernel,by decide +kernel⟩
theorem iqe:FnScope ["_law_script","_law_k"] ["_law_script","_law_k"] (defScope aq7):=⟨rfl,rfl,rfl,by decide +kernel,rfl,by decide +kernel,by decide +kernel⟩
theorem aqB:FnScope ["_law_cell","_law_many","_law_letters","_law_size","_law_at","_law_names_here","_law_k","_law_name","_law_j","_law_step_here"] ["_law_cell","_law_many"] (defScope bqF):=⟨rfl,rfl,rfl,by decide +kernel,rfl,by decide +kernel,by decide +kernel⟩
theorem gqj:FnScope ["_law_some"] [] (defScope bqK):=⟨rfl,rfl,rfl,by decide +kernel,rfl,by decide +kernel,by decide +kernel⟩
theorem kqX:FnScope ["_law_pattern_here"] ["_law_pattern_here"] (defScope bq4):=⟨rfl,rfl,rfl,by decide +kernel,rfl,by decide +kernel,by decide +kernel⟩
theorem iqu:FnScope ["_law_piece_here"] ["_law_piece_here"] (defScope aq9):=⟨rfl,rfl,rfl,by decide +kernel,rfl,by decide +kernel,by decide +kernel⟩
theorem bqs:FnScope ["_law_pattern_here","_law_values_here","_law_known","_law_steps","_law_piece_here"] ["_law_pattern_here","_law_values_here"] (defScope bql):=⟨rfl,rfl,rfl,by decide +kernel,rfl,by decide +kernel,by decide +kernel⟩
theorem bq9:FnScope ["_law_pattern_here","_law_found","_law_piece_here","_law_place"] ["_law_pattern_here"] (defScope bqq):=⟨rfl,rfl,rfl,by decide +kernel,rfl,by decide +kernel,by decide +kernel⟩
theorem mqV:FnScope ["thing"] ["thing"] (defScope dqG):=⟨rfl,rfl,rfl,by decide +kernel,rfl,by decide +kernel,by decide +kernel⟩
theorem lqL:FnScope ["pieces"] ["pieces"] (defScope cqV):=⟨rfl,rfl,rfl,by decide +kernel,rfl,by decide +kernel,by decide +kernel⟩
theorem iqm:FnScope ["pattern","count","pieces","more"] ["pattern","count"] (defScope fqf):=⟨rfl,rfl,rfl,by decide +kernel,rfl,by decide +kernel,by decide +kernel⟩
theorem eqJ:FnScope ["part","step","head","tail"] ["part","step"] (defScope bqZ):=⟨rfl,rfl,rfl,by decide +kernel,rfl,by decide +kernel,by decide +kernel⟩
theorem lqq:FnScope ["text"] ["text"] (defScope bq2):=⟨rfl,rfl,rfl,by decide +kernel,rfl,by decide +kernel,by decide +kernel⟩
theorem nqr:FnScope ["text"] ["text"] (defScope dqI):=⟨rfl,rfl,rfl,by decide +kernel,rfl,by decide +kernel,by decide +kernel⟩
theorem iqH:FnScope ["gap","steps"] ["gap","steps"] (defScope bqj):=⟨rfl,rfl,rfl,by decide +kernel,rfl,by decide +kernel,by decide +kernel⟩
theorem gqK:FnScope ["gap","value"] ["gap","value"] (defScope aqW):=⟨rfl,rfl,rfl,by decide +kernel,rfl,by decide +kernel,by decide +kernel⟩
theorem hqR:FnScope ["piece","head"] ["piece"] (defScope cqS):=⟨rfl,rfl,rfl,by decide +kernel,rfl,by decide +kernel,by decide +kernel⟩
theorem cqk:FnScope ["_law_cell","_law_pool","_law_text_here","_law_k"] ["_law_cell"] (defScope bq3):=⟨rfl,rfl,rfl,by decide +kernel,rfl,by decide +kernel,by decide +kernel⟩
theorem gqP:FnScope ["thing"] ["thing"] (defScope aqU):=⟨rfl,rfl,rfl,by decide +kernel,rfl,by decide +kernel,by decide +kernel⟩
theorem kqA:FnScope ["piece","step"] ["piece","step"] (defScope bq1):=⟨rfl,rfl,rfl,by decide +kernel,rfl,by decide +kernel,by decide +kernel⟩
theorem bqw:FnScope ["pattern","values","names","name","value"] ["pattern","values"] (defScope aqZ):=⟨rfl,rfl,rfl,by decide +kernel,rfl,by decide +kernel,by decide +kernel⟩
theorem eqn:FnScope ["one","other","mine","theirs"] ["one","other"] (defScope bqG):=⟨rfl,rfl,rfl,by decide +kernel,rfl,by decide +kernel,by decide +kernel⟩
theorem fqc:FnScope ["_law_cell","_law_text_here"] ["_law_cell"] (defScope bq5):=⟨rfl,rfl,rfl,by decide +kernel,rfl,by decide +kernel,by decide +kernel⟩
theorem lqZ:FnScope ["pattern","way","steps","pieces"] ["pattern","way"] (defScope jqf):=⟨rfl,rfl,rfl,by decide +kernel,rfl,by decide +kernel,by decide +kernel⟩
theorem iqx:FnScope ["thing"] ["thing"] (defScope bqm):=⟨rfl,rfl,rfl,by decide +kernel,rfl,by decide +kernel,by decide +kernel⟩
theorem cqL:FnScope ["entries","best","entry"] ["entries"] (defScope bqI):=⟨rfl,rfl,rfl,by decide +kernel,rfl,by decide +kernel,by decide +kernel⟩
theorem cqJ:FnScope ["_law_cell","_law_name","_law_head","_law_tail"] ["_law_cell","_law_name"] (defScope bqL):=⟨rfl,rfl,rfl,by decide +kernel,rfl,by decide +kernel,by decide +kernel⟩
theorem eqr:FnScope ["_law_piece_here","_law_cell","_law_text_here"] ["_law_piece_here","_law_cell"] (defScope bqH):=⟨rfl,rfl,rfl,by decide +kernel,rfl,by decide +kernel,by decide +kernel⟩
theorem hqC:FnScope ["pattern","way","values","place","piece"] ["pattern","way"] (defScope gqE):=⟨rfl,rfl,rfl,by decide +kernel,rfl,by decide +kernel,by decide +kernel⟩
theorem lqH:FnScope ["gap","value"] ["gap","value"] (defScope cqU):=⟨rfl,rfl,rfl,by decide +kernel,rfl,by decide +kernel,by decide +kernel⟩
theorem cqB:FnScope ["_law_cell","_law_names_here","_law_many","_law_pieces","_law_k"] ["_law_cell","_law_names_here"] (defScope bqN):=⟨rfl,rfl,rfl,by decide +kernel,rfl,by decide +kernel,by decide +kernel⟩
theorem bqu:FnScope ["_law_pattern_here","_law_cells","_law_found","_law_k","_law_piece_here","_law_cell"] ["_law_pattern_here","_law_cells"] (defScope bqk):=⟨rfl,rfl,rfl,by decide +kernel,rfl,by decide +kernel,by decide +kernel⟩
theorem eq0:FnScope ["piece","values","named"] ["piece","values"] (defScope aq6):=⟨rfl,rfl,rfl,by decide +kernel,rfl,by decide +kernel,by decide +kernel⟩
theorem lqN:FnScope ["table","way","entries","best"] ["table","way"] (defScope jqn):=⟨rfl,rfl,rfl,by decide +kernel,rfl,by decide +kernel,by decide +kernel⟩
theorem aqF:FnScope ["_law_script","_law_names_here","_law_labels","_law_first","_law_many","_law_table_here","_law_k","_law_cell","_law_pattern_here","_law_pieces","_law_ends","_law_at"] ["_law_script","_law_names_here","_law_labels","_law_first","_law_many"] (defScope bqJ):=⟨rfl,rfl,rfl,by decide +kernel,rfl,by decide +kernel,by decide +kernel⟩
theorem iqi:FnScope ["pattern","values","steps","piece"] ["pattern","values"] (defScope fqo):=⟨rfl,rfl,rfl,by decide +kernel,rfl,by decide +kernel,by decide +kernel⟩
theorem aqN:FnScope ["_law_table_here","_law_name","_law_values_here","_law_way","_law_found","_law_places","_law_others","_law_one","_law_other"] ["_law_table_here","_law_name","_law_values_here","_law_way"] (defScope aqV):=⟨rfl,rfl,rfl,by decide +kernel,rfl,by decide +kernel,by decide +kernel⟩
theorem tqf:FnScope ["table","name","values"] ["table","name","values"] (defScope iq8):=⟨rfl,rfl,rfl,by decide +kernel,rfl,by decide +kernel,by decide +kernel⟩
theorem bqd:FnScope ["_law_table_here","_law_name","_law_values_here","_law_found","_law_fault","e"] ["_law_table_here","_law_name","_law_values_here"] (defScope bq6):=⟨rfl,rfl,rfl,by decide +kernel,rfl,by decide +kernel,by decide +kernel⟩
theorem aqX:FnScope ["_law_table_here","_law_k","_law_cell","_law_name","_law_pattern_here","_law_values_here","_law_at","_law_fault","_law_way","_law_handed"] ["_law_table_here","_law_k","_law_cell"] (defScope bqM):=⟨rfl,rfl,rfl,by decide +kernel,rfl,by decide +kernel,by decide +kernel⟩
theorem gqv:FnScope ["_law_script","_law_many","_law_labels","_law_table_here","_law_kept","_law_odd","_law_cells","_law_k","_law_cell"] ["_law_script"] (defScope mqT):=⟨rfl,rfl,rfl,by decide +kernel,rfl,by decide +kernel,by decide +kernel⟩
theorem gqN (g:G w K mg):FnOk P w K mg base CX0 1 g.gqi g.fqw ["text","signs"] nqo:=by
 refine g.fqb.ok mq1 (fun vs H Q E h => ?_) (fun cdv A outer s H vs Q E hr h => ?_)
 ·obtain ⟨x,y,rfl,_⟩:=h; rfl
 ·obtain ⟨x,y,rfl,hx,k⟩:=h
  refine ⟨_,(aqg (aqp (aqs (hqO (K:=K) rfl rfl) rfl g.qqy PyProof.Rows.boot_all (aqa (hqJ (fx:=["signs"]) (fr:=[1]) rfl rfl (by decide +kernel) rfl (by decide +kernel) rfl (by decide +kernel) rfl (.cons rfl rfl rfl rfl .nil) rfl (tqr (pv 0)) (fun _ _ _ => mqr) (fun _ _ _ => (aqQ uqO (pv 0) (pv 1) (by with_unfolding_all rfl)))) aqb)))),?_⟩
  walk_at "rd"
  intro p hp
  refine qqF (z:=x) (aqu hx) hp (fun c => .bl (decide (c ∈ y.cps.toList))) (fun c hc H' R hR => ?_) (fun H' sm hp' => ?_)
  ·walk_at "rd"
   exact hR H' (Same.refl _)
  ·refine lqP.mpr ⟨x.cps.toList.map fun c => decide (c ∈ y.cps.toList),SqL.of (by rw [hp',List.map_map]; rfl),?_⟩
   rw [List.all_map]
   exact k H' sm
theorem gqc (g:G w K mg):FnOk P w K mg base CX0 1 g.bqn g.bqc ["thing"] fq6:=by
 refine g.bqY.ok fq1 (fun vs H Q E h => ?_) (fun cdv A outer s H vs Q E hr h => ?_)
 ·obtain ⟨d,v,rfl,_⟩:=h; rfl
 ·obtain ⟨d,v,rfl,hv,k⟩:=h
  refine ⟨_,(aqg (aqp (dqe (aqs dqJ rfl g.bqh aq0 (aqa (pv 0) (aqa (gqC (v:=.ty "int") rfl g.rqT qq3 rfl) aqb))) (cqu (oq4 (aqs dqJ rfl g.bqh aq0 (aqa (pv 0) (aqa (gqC (v:=.ty "bool") rfl g.rqa tqi rfl) aqb)))))))),?_⟩
  cases hv with
  | lst hp r => walk_at "rd"; simp only [hqx hp]; walk_at "rd"; exact k
  | tup hp r => walk_at "rd"; simp only [hqs hp]; walk_at "rd"; exact k
  | _ => walk_at "rd"; exact k
theorem cqZ (g:G w K mg):FnOk P w K mg base CX0 1 g.bqb g.aq3 ["self","name"] (bqE K g.aqD):=by
 refine g.dqw.ok fqH (fun vs H Q E h => ?_) (fun cdv A outer s H vs Q E hr h => ?_)
 ·obtain ⟨a,v,rfl,_⟩:=h; rfl
 ·obtain ⟨a,v,rfl,ha,k⟩:=h
  refine ⟨_,(aqg (rqR (pv 0) (pv 1) rfl)),?_⟩
  walk_at "rd"
  exact ⟨a,_,rfl,ha,g.eq6,fun d hd => k d hd⟩
theorem hqL (g:G w K mg):FnOk P w K mg base CX0 1 g.hqo g.fq8 ["step"] kq2:=by
 refine g.gql.ok pqi (fun vs H Q E h => ?_) (fun cdv A outer s H vs Q E hr h => ?_)
 ·obtain ⟨s,rfl,_⟩:=h; rfl
 ·obtain ⟨s,rfl,k⟩:=h
  refine ⟨_,(aqg (aqp (pq1 (aqQ aqT (pv 0) (aqO (v:=tqF) rfl g.qq5 ⟨_,rfl⟩) (nomark _)) (cqu (aqQ aqT (pv 0) (aqO (v:=k_UP) rfl g.c_UP ⟨_,rfl⟩) (nomark _)))))),?_⟩
  have d1:Str.ofString ".." = ⟨sUp.toArray⟩:=by decide +kernel
  have d2:Str.ofString "." = ⟨sStay.toArray⟩:=by decide +kernel
  walk_at "rd"
  rw [d1,d2]
  simp only [dqT]
  by_cases h2:s=sStay
  ·rw [if_pos h2]
   rw [show isDot s=true by simp [isDot,h2]] at k
   exact k
  ·rw [if_neg h2]
   rw [show isDot s=decide (s=sUp) by simp [isDot,h2]] at k
   exact k
theorem hq9 (g:G w K mg):FnOk P w K mg base CX0 1 g.hqp g.gqd ["piece"] (oq5 K):=by
 refine g.gqg.ok pqk (fun vs H Q E h => ?_) (fun cdv A outer s H vs Q E hr h => ?_)
 ·obtain ⟨c,p,rfl,_⟩:=h; rfl
 ·obtain ⟨c,p,rfl,hp,k⟩:=h
  refine ⟨_,(aqg (aqp (aqQ lqd (aqo (aqf (K:=K) rfl) (pv 0) aqc (fun _ _ => rfl)) aqr (nomark _)))),?_⟩
  walk_at "rd"
  refine ⟨_,_,.inr hp,c.at0,?_⟩
  refine L2.jq9.mpr ?_
  rw [jq8]
  exact k
theorem fqi (g:G w K mg):FnOk P w K mg base CX0 1 g.gqo g.fqj ["gap"] (jql K):=by
 refine g.dqU.ok nqB (fun vs H Q E h => ?_) (fun cdv A outer s H vs Q E hr h => ?_)
 ·obtain ⟨c,p,rfl,_⟩:=h; rfl
 ·obtain ⟨c,p,rfl,hp,hc,k⟩:=h
  refine ⟨_,(aqg (aqp (fql (aqm aqT (aqo (aqf (K:=K) rfl) (pv 0) aqc (fun _ _ => rfl)) aqr (nomark _)) (aqo (aqf (K:=K) rfl) (pv 0) aqc (fun _ _ => rfl)) (aqo (aqf (K:=K) rfl) (pv 0) aqc (fun _ _ => rfl))))),?_⟩
  walk_at "rd"
  refine ⟨_,_,.inr hp,c.at0,?_⟩
  refine L2.aqy.mpr ⟨_,rfl,?_⟩
  rw [cqY]
  cases c with
  | step s => cases hc
  | part h n t => exact ite2 (fun _ => ⟨_,_,.inr hp,aqi (j:=2) rfl,k⟩) (fun z => absurd rfl z)
  | num n => exact ite2 (fun z => by cases z) (fun _ => ⟨_,_,.inr hp,aqi (j:=1) rfl,k⟩)
  | word n => exact ite2 (fun z => by cases z) (fun _ => ⟨_,_,.inr hp,aqi (j:=1) rfl,k⟩)
  | gap n => exact ite2 (fun z => by cases z) (fun _ => ⟨_,_,.inr hp,aqi (j:=1) rfl,k⟩)
  | rest n => exact ite2 (fun z => by cases z) (fun _ => ⟨_,_,.inr hp,aqi (j:=1) rfl,k⟩)
theorem dqN (g:G w K mg):FnOk P w K mg base CX0 1 g.fqY g.fqu ["piece"] (iq9 K):=by
 refine g.cq4.ok nqj (fun vs H Q E h => ?_) (fun cdv A outer s H vs Q E hr h => ?_)
 ·obtain ⟨c,p,rfl,_⟩:=h; rfl
 ·obtain ⟨c,p,rfl,hp,k⟩:=h
  refine ⟨_,(aqg (aqp (fql (aqm aqT (aqo (aqf (K:=K) rfl) (pv 0) aqc (fun _ _ => rfl)) aqr (nomark _)) (aqo (aqf (K:=K) rfl) (pv 0) aqc (fun _ _ => rfl)) aqr))),?_⟩
  walk_at "rd"
  refine ⟨_,_,.inr hp,c.at0,?_⟩
  refine L2.aqy.mpr ⟨_,rfl,?_⟩
  rw [cqY]
  cases c with
  | part h n t => exact ite2 (fun _ => ⟨_,_,.inr hp,aqi (j:=1) rfl,k⟩) (fun z => absurd rfl z)
  | _ => exact ite2 (fun z => by cases z) (fun _ => k)
theorem dqR (g:G w K mg):FnOk P w K mg base CX0 1 g.fq3 g.fqm ["piece"] (jqc K):=by
 refine g.cq1.ok mqU (fun vs H Q E h => ?_) (fun cdv A outer s H vs Q E hr h => ?_)
 ·obtain ⟨c,p,rfl,_⟩:=h; rfl
 ·obtain ⟨c,p,rfl,hp,k⟩:=h
  refine ⟨_,(aqg (aqp (fql (aqm aqT (aqo (aqf (K:=K) rfl) (pv 0) aqc (fun _ _ => rfl)) aqr (nomark _)) (aqo (aqf (K:=K) rfl) (pv 0) aqc (fun _ _ => rfl)) aqr))),?_⟩
  walk_at "rd"
  refine ⟨_,_,.inr hp,c.at0,?_⟩
  refine L2.aqy.mpr ⟨_,rfl,?_⟩
  rw [cqY]
  cases c with
  | part h n t => exact ite2 (fun _ => ⟨_,_,.inr hp,aqi (j:=3) rfl,k⟩) (fun z => absurd rfl z)
  | _ => exact ite2 (fun z => by cases z) (fun _ => k)
theorem lq0 (g:G w K mg):FnOk P w K mg base CX0 1 g.fqx g.eqm ["pattern"] (lqS K):=by
 refine g.gqB.ok iql (fun vs H Q E h => ?_) (fun cdv A outer s H vs Q E hr h => ?_)
 ·obtain ⟨cs,xs,p,q,e,rfl,_⟩:=h; rfl
 ·obtain ⟨cs,xs,p,q,e,rfl,hp,hq,hx,hn,k⟩:=h
  refine ⟨_,(aqh (aqv (i:=1) iql.nd rfl (Or.inl rfl) (aqo (aqf (K:=K) rfl) (pv 0) (aqO (v:=cqM) rfl g.cqj ⟨_,rfl⟩) (fun _ _ => rfl)))
   (aqg (aqp (dqe (aqQ oq7 (aqs (aqt (K:=K) rfl) rfl g.bqa PySem.boot_len (aqa (pv 1) aqb)) aqc (nomark _)) (cqu (aqQ aqT (aqo (aqf (K:=K) rfl) (aqo (aqf (K:=K) rfl) (pv 1) (nqv jqd aqc) (fun _ _ => rfl)) aqc (fun _ _ => rfl)) aqr (nomark _))))))),?_⟩
  walk_at "rd"
  refine ⟨_,_,.inr hp,aqi (j:=0) rfl,?_⟩
  walk_at "rd"
  refine ⟨xs,.inr hq,?_⟩
  have hl:=hx.length
  by_cases h0:cs=[]
  ·subst h0
   refine ite2 (fun z => ?_) (fun _ => k)
   rw [hl] at z
   simp at z
  obtain ⟨c,hc⟩:∃ c,cs.getLast?=some c:=⟨_,List.getLast?_eq_some_getLast h0⟩
  have hr:hasRest cs=c.isRest:=by unfold hasRest; rw [hc]
  obtain ⟨v,hv,pc,rfl,hpc⟩:=hx.last hc
  refine ite2 (fun _ => ?_) (fun z => absurd (show (0:Int) < (xs.length:Int) by rw [hl]; have:=List.length_pos_iff.mpr h0; omega) z)
  refine ⟨_,_,.inr hq,hv,?_⟩
  walk_at "rd"
  refine ⟨_,_,.inr hpc,c.at0,?_⟩
  refine L2.aqy.mpr ?_
  rw [gqz,<- hr]
  exact k
theorem gqV (g:G w K mg):FnOk P w K mg base (CXN P w base) 1 g.bqU g.bqv ["table","name"] (gqL K g.cqa):=by
 refine g.cq8.okn cqr (fun vs H Q E h => ?_) (fun cdv A outer s H vs Q E hr h => ?_)
 ·obtain ⟨l,T,ws,n,rfl,_⟩:=h; rfl
 ·obtain ⟨l,T,ws,n,rfl,hl,hT,k,kE⟩:=h
  refine ⟨_,(aqh (cqv PassesOwn.leaving rfl (dq2 (K:=K) rfl (pv 0)) (eqP (n:=2) (K:=K) rfl rfl (aqS (aqE (i:=2) cqr.nd rfl (Or.inl rfl)) (aqS (aqE (i:=3) cqr.nd rfl (Or.inl rfl)) eqp)))
   (aqg (aqI (aqm aqT (pv 2) (pv 1) (nomark _))
    (aqg (aqp (pv 3))) aqw)))
   (aqg (pqt raisesN rfl g.jqE g.mqM rfl))),?_⟩
  walk_at "rd"
  have hwl:=hT.length
  refine ⟨⟨_,.of hl⟩,?_⟩
  refine gqw (xs:=ws) (fun i σ H' => Same H H'∧∃ v2 v3:Option V,σ=[some (.ref l),some (tV n),v2,v3]∧T.find? (fun t => decide (t.1=n))=(T.drop i).find? (fun t => decide (t.1=n))) ⟨Same.refl _,none,none,rfl,rfl⟩ (fun i σ H' _ h => .of (h.1 _ _ hl)) ?_ ?_
  ·rintro i v σ H1 hv ⟨s1,v2,v3,rfl,hfd⟩
   obtain ⟨t,ht,a',p',rfl,ha',hpt⟩:=hT.get hv
   rw [nqK ht,List.find?_cons] at hfd
   walk_at "rd"
   refine ⟨a',_,rfl,.of (s1 _ _ ha'),rfl,_,_,rfl,_,_,rfl,rfl,?_⟩
   walk_at "rd"
   refine ite2 (fun h => k t (by rw [hfd,decide_eq_true (dqT.mp h)]) p' H1 s1 (hpt.mono s1.toT)) (fun h => ⟨s1,_,_,⟨rfl,rfl⟩,by rw [hfd,decide_eq_false (fun z => h (by rw [z]))]⟩)
  rintro σ H1 ⟨s1,v2,v3,rfl,hfd⟩
  walk_at "rd"
  exact kE (by rw [hfd,hwl,List.drop_length]; rfl) H1 s1
theorem bqf (g:G w K mg):FnOk P w K mg base CX0 1 g.cqe g.bqO ["_law_script","_law_k"] (iqw K):=by
 refine g.aqY.ok iqe (fun vs H Q E h => ?_) (fun cdv A outer s H vs Q E hr h => ?_)
 ·obtain ⟨a,ns,k,rfl,_⟩:=h; rfl
 ·obtain ⟨a,ns,i,rfl,hS,k⟩:=h
  refine ⟨_,(aqh (aqI (aqm lqz (pv 1) (aqs (aqt (K:=K) rfl) rfl g.bqa PySem.boot_len (aqa (pv 0) aqb)) (nomark _))
    (aqg (aqp (aqo (aqf (K:=K) rfl) (pv 0) (pv 1) (fun _ _ => rfl)))) aqw)
   (aqg (aqp aqc))),?_⟩
  walk_at "rd"
  refine ⟨ns.map V.int,.inl hS,ite2 (fun h => ?_) (fun h => ?_)⟩
  ·rw [List.length_map] at h
   exact ⟨ns.map V.int,_,.inl hS,rqL (by omega),k⟩
  ·rw [List.length_map] at h
   rw [List.getD_eq_getElem?_getD,List.getElem?_eq_none (by omega)] at k
   exact k
theorem fq9 (g:G w K mg):FnOk P w K mg base CX0 1 g.dqs g.cqw ["_law_cell","_law_many"] (jqH K):=by
 refine g.dqf.ok aqB (fun vs H Q E h => ?_) (fun cdv A outer s H vs Q E hr h => ?_)
 ·obtain ⟨c,m,rfl,_⟩:=h; rfl
 ·obtain ⟨c,m,rfl,hm,k⟩:=h
  refine ⟨_,(aqh (aqv (i:=2) aqB.nd rfl (Or.inl rfl) aqr)
   (aqh (aqv (i:=3) aqB.nd rfl (Or.inl rfl) (aqn (aqx (K:=K)) aqc (aqn aqJ (pv 0) aqc)))
   (aqh (aqv (i:=4) aqB.nd rfl (Or.inl rfl) (aqn aqJ (aqn aqA (pv 0) aqc) (pv 3)))
   (aqh (aqv (i:=5) aqB.nd rfl (Or.inl rfl) (aqC aqb))
   (aqh (cqv PassesOwn.never rfl (cql rfl g.dq6 (aqa (pv 1) aqb)) (aqE (i:=6) aqB.nd rfl (Or.inl rfl))
   (aqh (aqv (i:=7) aqB.nd rfl (Or.inl rfl) aqr)
   (aqH (cqv PassesOwn.never rfl (cql rfl g.dq6 (aqa (pv 3) aqb)) (aqE (i:=8) aqB.nd rfl (Or.inl rfl))
   (aqh (aqv (i:=9) aqB.nd rfl (Or.inl rfl) (aqn (aqx (K:=K)) (aqn aqA (pv 0) (aqn (aqx (K:=K)) aqc (aqn eqt aqc (pv 8)))) (aqn eqt (aqn eqt aqc (pv 8)) (pv 8))))
   (aqH (aqI (aqm aqT (pv 8) (pv 4) (nomark _))
    (aqg (aqv (i:=9) aqB.nd rfl (Or.inl rfl) (aqn (aqx (K:=K)) (pv 9) (pv 6)))) aqw)
   (aqg (aqv (i:=7) aqB.nd rfl (Or.inl rfl) (aqn (aqx (K:=K)) (pv 7) (aqo (aqf (K:=K) rfl) (pv 2) (aqn aqJ (pv 9) aqc) (fun _ _ => rfl))))))))
   (aqH (aqI (PW.pt (hqg (aqm aqT (aqn aqJ (aqn aqA (pv 0) aqc) aqc) aqc (nomark _)) (eqE (aqm aqT (aqn aqJ (pv 6) aqc) aqc (nomark _)))))
    (aqg (aqv (i:=7) aqB.nd rfl (Or.inl rfl) (aqn (aqx (K:=K)) (pv 7) (aqo (aqf (K:=K) rfl) (pv 2) (aqn aqJ (aqn aqA (pv 0) aqc) aqc) (fun _ _ => rfl))))) aqw)
   (aqg (cq2 (dqW (K:=K) rfl PySem.F.plainAttrs_list PySem.F.slot_list_append PySem.F.type_list_append bqe (pv 5) (aqa (pv 7) aqb))))))))
   (aqg (aqp (pv 5)))))))),?_⟩
  have eL:Str.ofString "abcdefghijklmnopqrstuvwxyz" = ⟨smaL.toArray⟩:=by unfold smaL; simp
  rw [eL]
  walk_at "rd"
  refine ⟨by decide,⟨by decide,by decide⟩,by omega,by decide,fun p H1 n1 s1 e1 => ⟨by omega,by omega,?_⟩⟩
  rw [Int.toNat_natCast]
  obtain ⟨sz,hsz,hs1,hs7⟩:∃ sz:Nat,1 + c % 7=(sz:Int)∧1 ≤ sz∧sz ≤ 7:=⟨(1 + c % 7).toNat,by omega,by omega,by omega⟩
  rw [hsz]
  obtain ⟨at_,ha,hat⟩:∃ a:Nat,c / 7 % (sz:Int)=(a:Int)∧a < sz:=by
   have h1:=Int.emod_nonneg (c / 7) (show (sz:Int) ≠ 0 by omega)
   have h2:=Int.emod_lt_of_pos (c / 7) (show 0 < (sz:Int) by omega)
   exact ⟨(c / 7 % (sz:Int)).toNat,by omega,by omega⟩
  rw [ha]
  obtain ⟨X,hX⟩:∃ X:Int,X=c / (49 + 11 * (at_:Int)) + 3 * (at_:Int) * (at_:Int):=⟨_,rfl⟩
  refine dqQ (fun i σ H' => ∃ (ns:List (List Nat)) (v6 v7 v8 v9:Option V),σ=[some (.int c),some (.int (m:Int)),some (tV smaL),some (.int (sz:Int)),some (.int (at_:Int)),some (.ref p),v6,v7,v8,v9]∧ns.length=i∧(∀ n ∈ ns,0 < n.length∧n.length ≤ 8∧n.all isSma=true)∧(∀ (k:Nat) (n:List Nat),ns[k]?=some n->NmAt X at_ k n)∧Same H H'∧H' p=some (.lst (ns.map tV))) ⟨[],none,none,none,none,rfl,rfl,by simp,(fun k n h => by cases h),s1,e1⟩ ?_ ?_
  ·rintro i σ H2 hi ⟨ns,v6,v7,v8,v9,rfl,hl,hns,hnm,s2,e2⟩
   walk_at "rd"
   refine ⟨fun σ H3 => H3=H2∧∃ (l:List Nat) (v8 v9:Option V),l.length=sz∧NmAt X at_ i l∧l.all isSma=true∧σ=[some (.int c),some (.int (m:Int)),some (tV smaL),some (.int (sz:Int)),some (.int (at_:Int)),some (.ref p),some (.int (0 + (i:Int))),some (tV l),v8,v9],?_,?_⟩
   ·refine ⟨by omega,by omega,?_⟩
    rw [Int.toNat_natCast]
    refine dqQ (fun j σ H3 => H3=H2∧∃ (l:List Nat) (v8 v9:Option V),l.length=j∧(at_ < j->NmAt X at_ i l)∧l.all isSma=true∧σ=[some (.int c),some (.int (m:Int)),some (tV smaL),some (.int (sz:Int)),some (.int (at_:Int)),some (.ref p),some (.int (0 + (i:Int))),some (tV l),v8,v9]) ⟨rfl,[],_,_,rfl,(fun z => absurd z (by omega)),rfl,rfl⟩ ?_ (fun σ H3 ⟨h1,l,v8,v9,h2,h3,h4,h5⟩ => ⟨h1,l,v8,v9,h2,h3 hat,h4,h5⟩)
    rintro j σ H3 hj ⟨rfl,l,v8,v9,hll,hln,hla,rfl⟩
    walk_at "rd"
    refine ⟨.inl ⟨by decide,by decide⟩,⟨by omega,by omega⟩,.inl ⟨by decide,by decide⟩,.inr ⟨by omega,by omega⟩,?_⟩
    refine ⟨fun σ H4 => H4=H3∧∃ x:Int,(j=at_->x=X + (i:Int))∧σ=[some (.int c),some (.int (m:Int)),some (tV smaL),some (.int (sz:Int)),some (.int (at_:Int)),some (.ref p),some (.int (0 + (i:Int))),some (tV l),some (.int (0 + (j:Int))),some (.int x)],?_,?_⟩
    ·refine ite2 (fun z => ⟨rfl,_,fun e => ?_,rfl⟩) (fun z => ⟨rfl,_,fun e => absurd (by rw [e]; omega) z,rfl⟩)
     rw [hX,e,Int.zero_add,Int.zero_add]
    rintro σ H4 ⟨rfl,x,hx,rfl⟩
    obtain ⟨d,hd,hds⟩:=rqn x
    walk_at "rd"
    refine ⟨by decide,d,by decide +kernel,hd,aqu (by omega),l ++ [d],_,_,by rw [List.length_append,List.length_singleton,hll],fun z => ?_,by rw [List.all_append,hla]; simp [hds],rfl,rfl,rfl⟩
    by_cases ej:j=at_
    ·rw [hx ej] at hd
     exact ⟨d,by rw [List.getElem?_append_right (by omega),hll,ej,Nat.sub_self]; rfl,hd⟩
    ·exact (hln (by omega)).app
   rintro σ H3 ⟨rfl,l,v8,v9,hll,hln,hla,rfl⟩
   walk_at "rd"
   refine ⟨fun σ H4 => H4=H3∧∃ (l:List Nat),(0 < l.length∧l.length ≤ 8∧l.all isSma=true)∧NmAt X at_ i l∧σ=[some (.int c),some (.int (m:Int)),some (tV smaL),some (.int (sz:Int)),some (.int (at_:Int)),some (.ref p),some (.int (0 + (i:Int))),some (tV l),v8,v9],?_,?_⟩
   ·have stay:H3=H3∧∃ (l':List Nat),(0 < l'.length∧l'.length ≤ 8∧l'.all isSma=true)∧NmAt X at_ i l'∧[some (V.int c),some (.int (m:Int)),some (tV smaL),some (.int (sz:Int)),some (.int (at_:Int)),some (.ref p),some (.int (0 + (i:Int))),some (tV l),v8,v9]=[some (V.int c),some (.int (m:Int)),some (tV smaL),some (.int (sz:Int)),some (.int (at_:Int)),some (.ref p),some (.int (0 + (i:Int))),some (tV l'),v8,v9]:=⟨rfl,l,⟨by omega,by omega,hla⟩,hln,rfl⟩
    refine ⟨⟨by decide,by decide⟩,by decide,ite2 (fun _ => ⟨by decide,ite2 (fun _ => ?_) (fun _ => stay)⟩) (fun _ => stay)⟩
    obtain ⟨d,hd,hds⟩:=rqn (c / 686)
    refine ⟨⟨by decide,by decide⟩,by decide,d,by decide +kernel,hd,aqu (by omega),rfl,l ++ [d],⟨by rw [List.length_append,List.length_singleton]; omega,by rw [List.length_append,List.length_singleton]; omega,by rw [List.all_append,hla]; simp [hds]⟩,hln.app,?_⟩
    simp
   rintro σ H4 ⟨rfl,l2,hl2,hn2,rfl⟩
   walk_at "rd"
   refine ⟨⟨_,.of e2⟩,_,e2,by rw [List.length_map]; exact Nat.lt_of_le_of_lt (show ns.length ≤ 26 by omega) (by decide),ns ++ [l2],_,_,_,_,⟨rfl,rfl,rfl,rfl⟩,by rw [List.length_append,List.length_singleton,hl],fun n hn => ?_,fun k n hk => ?_,cqm n1 s2,by rw [aqk,List.map_append]; rfl⟩
   rcases List.mem_append.mp hn with z | z
   ·exact hns n z
   ·rw [List.mem_singleton.mp z]; exact hl2
   ·by_cases hk2:k < ns.length
    ·rw [List.getElem?_append_left hk2] at hk
     exact hnm k n hk
    ·rw [List.getElem?_append_right (by omega)] at hk
     have hk3:k - ns.length=0:=by
      cases hh:k - ns.length with
      | zero => rfl
      | succ z => rw [hh] at hk; cases hk
     rw [hk3] at hk
     cases hk
     rw [show k=i by omega]
     exact hn2
  ·rintro σ H2 ⟨ns,v6,v7,v8,v9,rfl,hl,hns,hnm,s2,e2⟩
   walk_at "rd"
   exact k ns p H2 hl hns (qqY hnm (by omega)) s2 e2
theorem jq6 (g:G w K mg):FnOk P w K mg base CX0 1 g.dqa g.cqy [] gqp:=by
 refine g.eqY.ok gqj (fun vs H Q E h => ?_) (fun cdv A outer s H vs Q E hr h => ?_)
 ·obtain ⟨rfl,_⟩:=h; rfl
 ·obtain ⟨rfl,k⟩:=h
  refine ⟨_,(aqh (aqv (i:=0) gqj.nd rfl (Or.inl rfl) aqr)
   (aqg (aqp (aqn (pqu (K:=K) rfl) (pv 0) aqr)))),?_⟩
  walk_at "rd"
  rw [show Str.ofString " !\"#$&'()*+,-./0123456789:;<=>?@ABCDEFGHIJKLMNOPQRSTUVWXYZ" ++ Str.ofString "[\\]^_`abcdefghijklmnopqrstuvwxyz{|}~" = ⟨SG.toArray⟩ by decide +kernel]
  exact ⟨by decide +kernel,k⟩
theorem kqH (g:G w K mg):FnOk P w K mg base CX0 1 g.dq7 g.dql ["_law_pattern_here"] (kqZ K):=by
 refine g.fqG.ok kqX (fun vs H Q E h => ?_) (fun cdv A outer s H vs Q E hr h => ?_)
 ·obtain ⟨cs,e,p,rfl,_⟩:=h; rfl
 ·obtain ⟨cs,e,p,rfl,⟨q,xs,hp,hq,hx⟩,hcl,k⟩:=h
  refine ⟨_,(aqg (aqp (hqJ (fx:=[]) (fr:=[]) rfl rfl (by decide +kernel) rfl (by decide +kernel) rfl (by decide +kernel) rfl .nil rfl (hqI (K:=K) rfl (aqo (aqf (K:=K) rfl) (pv 0) aqc (fun _ _ => rfl))) (fun _ _ _ => (iqZ (aqm lqd (aqo (aqf (K:=K) rfl) (pv 0) aqc (fun _ _ => rfl)) aqr (nomark _)))) (fun _ _ _ => (pv 0))))),?_⟩
  walk_at "rd"
  have hxl:=hx.length
  refine ⟨_,_,.inr (.of hp),aqi (j:=0) rfl,q,rfl,⟨_,.of hq⟩,fun l nl => ?_⟩
  refine iqP (fun i => ((cs[i]?.map fun c => !c.isStep)).getD false) (fun i => xs[i]?.getD .non) (.of hq) (aqu (by omega)) nl (fun i x hxi H1 R s1 hR => ?_) (fun i x hxi ht H1 T s1 hT => ?_) (fun H1 s1 hl1 => ?_)
  ·obtain ⟨c,b,hc,rfl,hb⟩:=hx.get hxi
   rw [hc] at hR
   walk_at "rd"
   refine ⟨_,_,.inr (.of (s1 _ _ hb)),c.at0,jq9.mpr ⟨_,rfl,?_⟩⟩
   rw [jq8]
   exact hR H1 (Same.refl _)
  ·rw [hxi] at hT
   walk_at "rd"
   exact hT H1 (Same.refl _)
  ·refine k l _ H1 nl s1 hl1 ?_
   have:=(hx.mono s1.toT).pick ((List.range xs.length).filter fun i => ((cs[i]?.map fun c => !c.isStep)).getD false) (fun i hi => List.mem_range.mp (List.mem_filter.mp hi).1)
   have e:=eqW (fun c:Pc => !c.isStep) (fun c => c) (Pc.gap []) cs
   rw [List.map_id',<- hxl] at e
   rw [<- e]
   have e2:(((List.range xs.length).filter fun i => ((cs[i]?.map fun c => !c.isStep)).getD false).map fun i => (cs[i]?.map fun c => c).getD (Pc.gap []))=((List.range xs.length).filter fun i => ((cs[i]?.map fun c => !c.isStep)).getD false).map fun i => cs[i]?.getD (Pc.gap []):=by
    apply List.map_congr_left
    intro i _
    rw [Option.map_id']
   rw [e2]
   exact this
theorem iqp (g:G w K mg):FnOk P w K mg base CX0 1 g.bq8 g.bqQ ["_law_piece_here"] (hqW K):=by
 refine g.dqy.ok iqu (fun vs H Q E h => ?_) (fun cdv A outer s H vs Q E hr h => ?_)
 ·obtain ⟨c,p,rfl,_⟩:=h; rfl
 ·obtain ⟨c,p,rfl,hp,hst,k⟩:=h
  refine ⟨_,(aqg (aqp (fql (aqm aqT (aqo (aqf (K:=K) rfl) (pv 0) aqc (fun _ _ => rfl)) aqr (nomark _)) (aqo (aqf (K:=K) rfl) (pv 0) aqc (fun _ _ => rfl)) (aqo (aqf (K:=K) rfl) (pv 0) aqc (fun _ _ => rfl))))),?_⟩
  walk_at "rd"
  refine ⟨_,_,.inr hp,c.at0,?_⟩
  refine L2.aqy.mpr ⟨_,rfl,?_⟩
  rw [cqY]
  cases c with
  | part h n t => exact ite2 (fun _ => ⟨_,_,.inr hp,aqi (j:=2) rfl,k⟩) (fun z => absurd rfl z)
  | step w => cases hst
  | _ => exact ite2 (fun z => by cases z) (fun _ => ⟨_,_,.inr hp,aqi (j:=1) rfl,k⟩)
theorem fqA (g:G w K mg):FnOk P w K mg base CX0 1 g.cqK g.cqf ["_law_pattern_here","_law_values_here"] (iqy K):=by
 refine g.cqF.ok bqs (fun vs H Q E h => ?_) (fun cdv A outer s H vs Q E hr h => ?_)
 ·obtain ⟨cs,e,p,l,l0,bs,ys,rfl,_⟩:=h; rfl
 ·obtain ⟨cs,e,p,l,l0,bs,ys,rfl,⟨q,xs,hp,hq,hx⟩,hok,hlr,hcl,hG,hnd,hl,hB,k⟩:=h
  refine ⟨_,(aqh (aqv (i:=2) bqs.nd rfl (Or.inl rfl) (bqT (nqc rfl) rfl g.rqp sqL (aqa (pv 1) aqb)))
   (aqh (aqv (i:=3) bqs.nd rfl (Or.inl rfl) (aqC aqb))
   (aqh (cqv PassesOwn.never rfl (hqI (K:=K) rfl (aqo (aqf (K:=K) rfl) (pv 0) aqc (fun _ _ => rfl))) (aqE (i:=4) bqs.nd rfl (Or.inl rfl))
   (aqg (aqI (aqm aqT (aqo (aqf (K:=K) rfl) (pv 4) aqc (fun _ _ => rfl)) aqr (nomark _))
    (aqg (cq2 (dqW (K:=K) rfl PySem.F.plainAttrs_list PySem.F.slot_list_append PySem.F.type_list_append bqe (pv 3) (aqa (aqo (aqf (K:=K) rfl) (pv 4) aqc (fun _ _ => rfl)) aqb)))) (aqg (aqI (aqm aqT (aqo (aqf (K:=K) rfl) (pv 4) aqc (fun _ _ => rfl)) aqr (nomark _))
    (aqg (cq2 (dqW (K:=K) rfl PySem.F.plainAttrs_list PySem.F.slot_list_append PySem.F.type_list_append bqe (pv 3) (aqa (aqn (aqx (K:=K)) (aqn (aqx (K:=K)) (aqo (aqf (K:=K) rfl) (pv 4) aqc (fun _ _ => rfl)) (lqI hr.units1 (pv 2) (aqo (aqf (K:=K) rfl) (pv 4) aqc (fun _ _ => rfl)) (fun _ _ => rfl))) (aqo (aqf (K:=K) rfl) (pv 4) aqc (fun _ _ => rfl))) aqb)))) (aqg (aqI (aqm aqT (aqo (aqf (K:=K) rfl) (pv 4) aqc (fun _ _ => rfl)) aqr (nomark _))
    (aqg (aqv (i:=3) bqs.nd rfl (Or.inl rfl) (aqn (aqx (K:=K)) (pv 3) (lqI hr.units1 (pv 2) (aqo (aqf (K:=K) rfl) (pv 4) aqc (fun _ _ => rfl)) (fun _ _ => rfl))))) (aqg (cq2 (dqW (K:=K) rfl PySem.F.plainAttrs_list PySem.F.slot_list_append PySem.F.type_list_append bqe (pv 3) (aqa (bqT nq7 rfl g.oqI mqj (aqa (lqI hr.units1 (pv 2) (aqo (aqf (K:=K) rfl) (pv 4) aqc (fun _ _ => rfl)) (fun _ _ => rfl)) aqb)) aqb)))))))))))
   (aqg (aqp (aqR (aqa hq4 (aqa (bqT (fqK (K:=K) rfl) rfl g.iqt hqG (aqa (pv 3) aqb)) (aqa (aqo (aqf (K:=K) rfl) (pv 0) aqc (fun _ _ => rfl)) aqb))))))))),?_⟩
  walk_at "rd"
  have hxl:=hx.length
  have hyl:=hB.length
  have hnm:=hG.names
  have hbl:bs.length ≤ 12:=by
   have h1:=jq0 cs
   rw [<- hnm,List.length_map] at h1
   omega
  obtain ⟨kvs,a1,a2,a3,a4⟩:=hB.kvs
  have knd:(kvs.map (·.1)).Nodup:=by
   rw [a1,show (bs.map fun b => (Sum.inr ⟨b.1.toArray⟩:Key))=(gapsM cs).map (fun n => (Sum.inr ⟨n.toArray⟩:Key)) by rw [<- hnm,List.map_map]; rfl]
   exact List.Pairwise.map _ (fun a b h z => h (by injection z with z; exact dqT.mp z)) hnd
  refine ⟨l,ys,kvs,rfl,hl,a2,by omega,a3,fun d nd => ?_⟩
  have s1:Same H (upd H d (.dK (mergeK [] kvs))):=aqK nd
  have hd1:(upd H d (.dK (mergeK [] kvs))) d=some (.dK (mergeK [] kvs)):=aqk
  generalize upd H d (.dK (mergeK [] kvs))=H1 at s1 hd1
  refine ⟨by decide,fun lz H2 n2 s2 hlz => ⟨_,_,.inr (.of ((s1.trans s2) _ _ hp)),aqi (j:=0) rfl,q,rfl,⟨_,.of ((s1.trans s2) _ _ hq)⟩,?_⟩⟩
  refine kqc (xs:=xs) (fun i σ H' => Same H1 H'∧∃ (lz:Addr) (b1 b2:List (List Nat × Vl)) (v4:Option V),σ=[some (.ref p),some (.ref l),some (.ref d),some (.ref lz),v4]∧H1 lz=none∧bs=b1 ++ b2∧GvA (cs.take i) b1∧GvA (cs.drop i) b2∧H' lz=some (.lst ((stpsM (cs.take i) b1).map tV))) ⟨s2,lz,[],bs,none,rfl,n2,rfl,.nil,hG,hlz⟩ (fun i σ H' _ h => .of ((s1.trans h.1) _ _ hq)) ?_ ?_
  rotate_left
  ·rintro σ H3 ⟨s3,lz,b1,b2,v4,rfl,n3,eb,g1,g2,hl3⟩
   rw [hxl,List.drop_length] at g2
   cases g2
   rw [hxl,List.take_length] at hl3
   rw [List.append_nil] at eb
   subst eb
   walk_at "rd"
   refine ⟨_,.inl (.of hl3),fun tp H4 s4 ht => ⟨_,_,.inr (.of ((s1.trans (s3.trans s4)) _ _ hp)),aqi (j:=1) rfl,by decide,fun pw H5 n5 s5 e5 => k pw tp H5 (s1.trans (s3.trans (s4.trans s5))) e5 (s5 _ _ ht)⟩⟩
  rintro i v σ H3 hv ⟨s3,lz,b1,b2,v4,rfl,n3,eb,g1,g2,hl3⟩
  obtain ⟨c,b,hc,rfl,hb⟩:=hx.get hv
  have hi:i < cs.length:=(List.getElem?_eq_some_iff.mp hc).1
  have hb3:=(s1.trans s3) _ _ hb
  have co:=hok c (List.mem_of_getElem? hc)
  rw [nqK hc] at g2
  have et:cs.take (i + 1)=cs.take i ++ [c]:=by rw [List.take_add_one,hc]; rfl
  have gA:=kq5 g1 (fun c hc => hok c (List.mem_of_mem_take hc)) (nqm hlr i)
  have hsl:(stpsM (cs.take i) b1).length ≤ 100:=by have:=gA.mx; rw [List.length_take] at this; omega
  have hml:((stpsM (cs.take i) b1).map tV).length < sizeLine:=by rw [List.length_map]; exact Nat.lt_of_le_of_lt hsl (by decide)
  have one:∀ {s:List Nat}{b1' b2':List (List Nat × Vl)},bs=b1' ++ b2'->GvA (cs.take (i + 1)) b1'->GvA (cs.drop (i + 1)) b2'->stpsM (cs.take (i + 1)) b1'=stpsM (cs.take i) b1 ++ [s]->∃ zs,H3 lz=some (.lst zs)∧zs.length < sizeLine∧Same H1 (upd H3 lz (.lst (zs ++ [tV s])))∧∃ (lz_1:Addr) (b1 b2:List (List Nat × Vl)) (v4:Option V),(lz=lz_1∧some (V.ref b)=v4)∧H1 lz_1=none∧bs=b1 ++ b2∧GvA (cs.take (i + 1)) b1∧GvA (cs.drop (i + 1)) b2∧upd H3 lz (.lst (zs ++ [tV s])) lz_1=some (.lst ((stpsM (cs.take (i + 1)) b1).map tV)):=fun h1 h2 h3 h4 => ⟨_,hl3,hml,cqm n3 s3,lz,_,_,_,⟨rfl,rfl⟩,n3,h1,h2,h3,by rw [aqk,h4,List.map_append]; rfl⟩
  walk_at "rd"
  refine ⟨_,_,.inr (.of hb3),c.at0,aqy.mpr ⟨_,rfl,?_⟩⟩
  rw [jq8]
  refine ite2 (fun h1 => ?_) (fun h1 => ⟨_,_,.inr (.of hb3),c.at0,aqy.mpr ⟨_,rfl,?_⟩⟩)
  ·cases c with
   | step w =>
    cases g2 with
    | gap z _ _ => cases z
    | step g2 => exact ⟨⟨_,.of hl3⟩,_,_,.inr (.of hb3),aqi (j:=1) rfl,one eb (by rw [et]; exact g1.snocS) g2 (by rw [et]; exact (kqE g1).1 w)⟩
   | _ => cases h1
  rw [cqY]
  cases g2 with
  | step g2 => exact absurd rfl h1
  | @gap _ x _ b2 cst gx g2 =>
   obtain ⟨w,w1,w2⟩:=a4 (c.name,x) (by rw [eb]; simp)
   have hg:valV (mergeK [] kvs) (Sum.inr ⟨c.name.toArray⟩)=some w:=kqW kvs [] _ w knd w1
   have hdg:DGet H3 d (tV c.name) (some w):=by rw [<- hg]; exact DGet.k (k:=Sum.inr (⟨c.name.toArray⟩:Str)) (s3 _ _ hd1)
   have eb':bs=(b1 ++ [(c.name,x)]) ++ b2:=by rw [eb]; simp
   have gs':GvA (cs.take (i + 1)) (b1 ++ [(c.name,x)]):=by rw [et]; exact g1.snoc cst gx
   have es:stpsM (cs.take (i + 1)) (b1 ++ [(c.name,x)])=stpsM (cs.take i) b1 ++ stM c x:=by rw [et]; exact (kqE g1).2 c _ cst
   refine ite2 (fun h2 => ?_) (fun h2 => ⟨_,_,.inr (.of hb3),c.at0,aqy.mpr ⟨_,rfl,?_⟩⟩)
   ·cases c with
    | part a n t =>
     obtain ⟨s,rfl,y1,y2,y3,y4⟩:=gx
     obtain ⟨o1,o2,o3,o4,o5⟩:=co
     cases w2
     refine ⟨⟨_,.of hl3⟩,_,_,.inr (.of hb3),aqi (j:=1) rfl,_,_,.inr (.of hb3),aqi (j:=2) rfl,d,_,rfl,hdg,cqq.mpr ⟨aqu (by rw [bqr,bqr]; omega),_,_,.inr (.of hb3),aqi (j:=3) rfl,?_⟩⟩
     rw [dqr]
     refine cqq.mpr ⟨aqu (by rw [bqr,bqr,List.length_append]; omega),?_⟩
     rw [dqr]
     exact one eb' gs' g2 es
    | _ => cases h2
   rw [gqz]
   refine ite2 (fun h5 => ?_) (fun h5 => ⟨⟨_,.of hl3⟩,_,_,.inr (.of hb3),aqi (j:=1) (v:=tV c.name) ?_,d,_,rfl,hdg,?_⟩)
   ·cases c with
    | rest n =>
     obtain ⟨ls,rfl,y1,y2,y3⟩:=gx
     obtain ⟨qq,rfl,hqq⟩:=w2
     refine ⟨_,_,.inr (.of hb3),aqi (j:=1) rfl,d,_,rfl,hdg,.inl ⟨_,_,hl3,(s1.trans s3) _ _ hqq,aqu (by rw [List.length_map,List.length_map]; omega),fun p4 H4 n4 s4 e4 => ⟨s3.trans s4,p4,_,_,_,⟨rfl,rfl⟩,gqh s3 n4,eb',gs',g2,?_⟩⟩⟩
     rw [e4,es,List.map_append]
     rfl
    | _ => cases h5
   ·cases c with
    | part a n t => exact absurd rfl h2
    | step w => exact absurd rfl h1
    | _ => rfl
   cases c with
   | part a n t => exact absurd rfl h2
   | step w => exact absurd rfl h1
   | rest n => exact absurd rfl h5
   | num n =>
    obtain ⟨z,rfl,z0,z1⟩:=gx
    cases w2
    refine .inl ⟨z,rfl,?_,one eb' gs' g2 es⟩
    by_cases h0:z.natAbs=0
    ·rw [h0]; decide
    ·rw [Nat.log2_lt h0]
     have:z.natAbs < 10 ^ 60:=by omega
     exact Nat.lt_of_lt_of_le this (by decide +kernel)
   | word n =>
    obtain ⟨s,rfl,_⟩:=gx
    cases w2
    exact .inr ⟨_,rfl,one eb' gs' g2 (by rw [es]; show _ ++ [[] ++ s ++ []]=_; simp)⟩
   | gap n =>
    obtain ⟨s,rfl,_⟩:=gx
    cases w2
    exact .inr ⟨_,rfl,one eb' gs' g2 (by rw [es]; show _ ++ [[] ++ s ++ []]=_; simp)⟩
theorem fqF (g:G w K mg):FnOk P w K mg base CX0 1 g.cqG g.cqg ["_law_pattern_here"] (iqN K):=by
 refine g.cqH.ok bq9 (fun vs H Q E h => ?_) (fun cdv A outer s H vs Q E hr h => ?_)
 ·obtain ⟨cs,e,p,rfl,_⟩:=h; rfl
 ·obtain ⟨cs,e,p,rfl,⟨q,xs,hp,hq,hx⟩,hok,k⟩:=h
  refine ⟨_,(aqh (aqv (i:=1) bq9.nd rfl (Or.inl rfl) (aqC aqb))
   (aqh (cqv PassesOwn.never rfl (hqI (K:=K) rfl (aqo (aqf (K:=K) rfl) (pv 0) aqc (fun _ _ => rfl))) (aqE (i:=2) bq9.nd rfl (Or.inl rfl))
   (aqh (aqv (i:=3) bq9.nd rfl (Or.inl rfl) (dqW (K:=K) rfl PySem.F.plainAttrs_list PySem.F.slot_list_index PySem.F.type_list_index oqb (aqC (aqa aqr (aqa aqr (aqa aqr (aqa aqr (aqa aqr (aqa aqr aqb))))))) (aqa (aqo (aqf (K:=K) rfl) (pv 2) aqc (fun _ _ => rfl)) aqb)))
   (aqh (cq2 (dqW (K:=K) rfl PySem.F.plainAttrs_list PySem.F.slot_list_append PySem.F.type_list_append bqe (pv 1) (aqa (aqC (aqa (pv 3) aqb)) aqb)))
   (aqg (aqI (aqm aqT (aqo (aqf (K:=K) rfl) (pv 2) aqc (fun _ _ => rfl)) aqr (nomark _))
    (aqg (mqH (aqC (aqa (pv 3) (aqa (aqn (aqx (K:=K)) (aqs (aqt (K:=K) rfl) rfl g.bqa PySem.boot_len (aqa (aqo (aqf (K:=K) rfl) (pv 2) aqc (fun _ _ => rfl)) aqb)) (aqs (aqt (K:=K) rfl) rfl g.bqa PySem.boot_len (aqa (aqo (aqf (K:=K) rfl) (pv 2) aqc (fun _ _ => rfl)) aqb))) (aqa (aqs (aqt (K:=K) rfl) rfl g.bqa PySem.boot_len (aqa (aqo (aqf (K:=K) rfl) (pv 2) aqc (fun _ _ => rfl)) aqb)) aqb)))) (qq6 (pv 1) (nqv jqd aqc) mqJ))) aqw)))))
   (aqg (aqp (aqn (aqx (K:=K)) (pv 1) (aqC (aqa (aqC (aqa aqc aqb)) aqb))))))),?_⟩
  walk_at "rd"
  have hxl:=hx.length
  have o90:=hok.1
  refine ⟨by decide,fun l H1 n1 s1 hl => ⟨_,_,.inr (.of (s1 _ _ hp)),aqi (j:=0) rfl,q,rfl,⟨_,.of (s1 _ _ hq)⟩,?_⟩⟩
  refine kqc (xs:=xs) (fun i σ H' => Same H H'∧∃ (us:List V) (v2 v3:Option V),σ=[some (.ref p),some (.ref l),v2,v3]∧H' l=some (.lst us)∧WlAt H' l ((cs.take i).map worthL) us) ⟨s1,[],none,none,rfl,hl,rfl,fun j u h => by simp at h⟩ (fun i σ H' _ h => .of (h.1 _ _ hq)) ?_ ?_
  ·rintro i v σ H2 hxi ⟨s2,us,v2,v3,rfl,hl2,hw⟩
   obtain ⟨c,b,hc,rfl,hv⟩:=hx.get hxi
   have hb2:=s2 _ _ hv
   have hul:us.length ≤ 90:=by rw [hw.1,List.length_map,List.length_take]; omega
   have hlt:∀ z:Nat,z ≤ 91->z < sizeLine:=fun z h => Nat.lt_of_le_of_lt h (by decide)
   have et:(cs.take (i + 1)).map worthL=(cs.take i).map worthL ++ [worthL c]:=by rw [List.take_add_one,hc,List.map_append]; rfl
   obtain ⟨j,j1,j2,j3⟩:=uq6 c
   walk_at "rd"
   refine ⟨by decide,fun p3 H3 n3 s3 e3 => ⟨⟨_,.of e3⟩,_,_,.inr (.of (s3 _ _ hb2)),c.at0,oqe.mpr ⟨kwS.map V.str,j,e3,(fun v hv => ?_),j1,j2,?_⟩⟩⟩
   ·obtain ⟨z,_,rfl⟩:=List.mem_map.mp hv
    exact ⟨z,rfl⟩
   have hl3:=s3 _ _ hl2
   refine ⟨⟨_,.of hl3⟩,by decide,fun p4 H4 n4 s4 e4 => ?_⟩
   have hl4:=s4 _ _ hl3
   have n4l:p4 ≠ l:=fun z => by rw [z,hl3] at n4; cases n4
   have u4:=(s2.trans s3).trans s4
   have hw4:=hw.mono (s3.trans s4)
   refine ⟨us,hl4,hlt _ (by omega),?_⟩
   have hne:b ≠ l:=uqo (u4 _ _ hv) hl4 (by intro z; cases z)
   have hb5:(upd H4 l (.lst (us ++ [.ref p4]))) b=some (.tup c.vals):=by rw [aqq hne]; exact u4 _ _ hv
   refine ⟨_,_,.inr (.of hb5),c.at0,aqy.mpr ⟨_,rfl,?_⟩⟩
   rw [cqY]
   rw [j3] at e4
   refine ite2 (fun h2 => ?_) (fun h2 => ⟨cqm n1 u4,us ++ [.ref p4],_,_,⟨rfl,rfl⟩,aqk,?_⟩)
   ·cases c with
    | part h n t =>
     obtain ⟨o1,o2,_⟩:=(hok.2 _ (List.mem_of_getElem? hc)).1
     have u5:Same H (upd H4 l (.lst (us ++ [.ref p4]))):=cqm n1 u4
     have hl5:(upd H4 l (.lst (us ++ [.ref p4]))) l=some (.lst (us ++ [.ref p4])):=aqk
     have hw5:WlAt (upd H4 l (.lst (us ++ [.ref p4]))) l ((cs.take i).map worthL) us:=hw4.put
     generalize upd H4 l (.lst (us ++ [.ref p4]))=H5 at u5 hl5 hw5 hb5
     refine ⟨_,_,.inr (.of hb5),aqi (j:=1) rfl,?_⟩
     walk_at "rd"
     refine ⟨aqu (by omega),_,_,.inr (.of hb5),aqi (j:=3) rfl,?_⟩
     walk_at "rd"
     refine ⟨aqu (by omega),_,_,.inr (.of hb5),aqi (j:=1) rfl,?_⟩
     walk_at "rd"
     refine ⟨aqu (by omega),by decide,fun p6 H6 n6 s6 e6 => ⟨us ++ [.ref p4],us.length,s6 _ _ hl5,?_,?_⟩⟩
     ·unfold ixN
      rw [List.length_append,List.length_singleton,if_neg (by omega),if_pos (by omega)]
      congr 1
      omega
     have es:(us ++ [V.ref p4]).set us.length (.ref p6)=us ++ [.ref p6]:=by
      rw [List.set_append_right _ _ (Nat.le_refl _),Nat.sub_self]
      rfl
     have n6l:p6 ≠ l:=fun z => by rw [z,hl5] at n6; cases n6
     rw [es,et]
     refine ⟨cqm n1 (u5.trans s6),us ++ [.ref p6],_,_,⟨rfl,rfl⟩,aqk,((hw5.mono s6).snoc n6l ?_).put⟩
     rw [e6,j3]
     show some (HO.lst [V.int (5 - 1),V.int ((h.length:Int) + (t.length:Int)),V.int (h.length:Int)])=some (HO.lst [V.int 4,V.int ((h.length + t.length:Nat):Int),V.int (h.length:Int)])
     rw [show ((h.length + t.length:Nat):Int)=(h.length:Int) + (t.length:Int) by omega]
     rfl
    | _ => cases h2
   ·rw [et]
    refine (hw4.snoc n4l ?_).put
    cases c with
    | part h n t => exact absurd rfl h2
    | _ => exact e4
  ·rintro σ H2 ⟨s2,us,v2,v3,rfl,hl2,hw⟩
   rw [hxl,List.take_length] at hw
   have hul:us.length ≤ 90:=by rw [hw.1,List.length_map]; omega
   walk_at "rd"
   refine ⟨by decide,fun p3 H3 n3 s3 e3 => ⟨by decide,fun p4 H4 n4 s4 e4 => .inl ⟨_,_,(s3.trans s4) _ _ hl2,e4,aqu (by simp only [List.length_cons,List.length_nil]; omega),fun p5 H5 n5 s5 e5 => ?_⟩⟩⟩
   have u5:=(s3.trans s4).trans s5
   have n3l:p3 ≠ l:=fun z => by rw [z,hl2] at n3; cases n3
   exact k p5 _ H5 (s2.trans u5) e5 ((hw.mono u5).snoc (w:=[6]) n3l ((s4.trans s5) _ _ e3)).isAll
theorem nqw (g:G w K mg):FnOk P w K mg base CX0 2 g.gqu g.fqk ["thing"] nql:=by
 refine g.iqj.ok mqV (fun vs H Q E h => ?_) (fun cdv A outer s H vs Q E hr h => ?_)
 ·obtain ⟨d,v,rfl,_⟩:=h; rfl
 ·obtain ⟨d,v,rfl,hv,hs,k⟩:=h
  refine ⟨_,(aqg (aqp (dqe (aqs dqJ rfl g.bqh aq0 (aqa (pv 0) (aqa (gqC (v:=.ty "str") rfl g.oqI mqj rfl) aqb))) (cqu (aqj (gqN g) (hr.mono (by decide)) rfl g.gqq g.fqb.kp g.fqU .nil pass0 (aqa (pv 0) (aqa (aqO (v:=sqf) rfl g.pqy ⟨_,rfl⟩) aqb))))))),?_⟩
  cases hv with
  | lst hp r => walk_at "rd"; simp only [hqx hp]; walk_at "rd"; exact k H (Same.refl _)
  | tup hp r => walk_at "rd"; simp only [hqs hp]; walk_at "rd"; exact k H (Same.refl _)
  | str x =>
   walk_at "rd"
   refine ⟨x,_,rfl,eqQ hs,fun H' sm => ?_⟩
   simp only [uqc]
   exact k H' sm
  | _ => walk_at "rd"; exact k H (Same.refl _)
theorem lq2 (g:G w K mg):FnOk P w K mg base CX0 2 g.fqn g.dq4 ["pieces"] (lqy K):=by
 refine g.gqG.ok lqL (fun vs H Q E h => ?_) (fun cdv A outer s H vs Q E hr h => ?_)
 ·obtain ⟨cs,xs,q,rfl,_⟩:=h; rfl
 ·obtain ⟨cs,xs,q,rfl,hq,hx,hn,k⟩:=h
  refine ⟨_,(aqg (aqp (hqJ (fx:=[]) (fr:=[]) rfl rfl (by decide +kernel) rfl (by decide +kernel) rfl (by decide +kernel) rfl .nil rfl (hqI (K:=K) rfl (pv 0)) (fun _ _ _ => (iqZ (dqF (aqj (hq9 g) (hr.mono (by decide)) rfl g.hqu g.gqg.kp g.hqr .nil pass0 (aqa (pv 0) aqb))))) (fun _ _ _ => (aqj (fqi g) (hr.mono (by decide)) rfl g.eq5 g.dqU.kp g.eq9 .nil pass0 (aqa (pv 0) aqb)))))),?_⟩
  walk_at "rd"
  have hl:=hx.length
  refine ⟨⟨_,hq⟩,fun p n => ?_⟩
  refine iqP (fun i => (cs[i]?.map fun c => !c.isStep).getD false) (fun i => (cs[i]?.map fun c => tV c.name).getD .non) hq (aqu (by omega)) n (fun i x hi H1 R s1 hR => ?_) (fun i x hi ht H1 T s1 hT => ?_) (fun H1 s1 hp1 => ?_)
  ·obtain ⟨c,q,hc,rfl,hv⟩:=hx.get hi
   walk_at "rd"
   have:=hR H1 (Same.refl _)
   rw [hc] at this
   exact ⟨c,q,rfl,s1.tup hv,_,rfl,this⟩
  ·obtain ⟨c,q,hc,rfl,hv⟩:=hx.get hi
   rw [hc] at ht
   walk_at "rd"
   have:=hT H1 (Same.refl _)
   rw [hc] at this
   exact ⟨c,q,rfl,s1.tup hv,by simpa using ht,this⟩
  ·refine k p H1 s1 ?_
   rw [hp1,hl,eqW (fun c:Pc => !c.isStep) (fun c:Pc => tV c.name) .non cs]
   unfold gapsM
   rw [List.map_map]
   rfl
theorem pqo (g:G w K mg):FnOk P w K mg base CX0 2 g.hqD g.gqr ["pattern","count"] (nqE K):=by
 refine g.kqe.ok iqm (fun vs H Q E h => ?_) (fun cdv A outer s H vs Q E hr h => ?_)
 ·obtain ⟨cs,xs,p,q,e,n,rfl,_⟩:=h; rfl
 ·obtain ⟨cs,xs,p,q,e,n,rfl,hp,hq,hx,hn,hnn,k0,k⟩:=h
  refine ⟨_,(aqh (aqv (i:=2) iqm.nd rfl (Or.inl rfl) (aqo (aqf (K:=K) rfl) (pv 0) (aqO (v:=cqM) rfl g.cqj ⟨_,rfl⟩) (fun _ _ => rfl)))
   (aqh (aqv (i:=3) iqm.nd rfl (Or.inl rfl) (aqn mqq (pv 1) (aqs (aqt (K:=K) rfl) rfl g.bqa PySem.boot_len (aqa (pv 2) aqb))))
   (aqh (aqI (PW.pt (hqg (dqF (aqj (lq0 g) (hr.mono (by decide)) rfl g.iqV g.gqB.kp g.iq1 .nil pass0 (aqa (pv 0) aqb))) (eqE (aqm uqV (pv 3) aqc (nomark _)))))
    (aqg (aqp (aqn (aqx (K:=K)) (pv 2) (aqn rqJ (cqd jqF (pv 2) (bqD (nqv jqd aqc)) cqW) (pv 3))))) aqw)
   (aqg (aqp (fql (aqm aqT (pv 3) aqc (nomark _)) (pv 2) gq7)))))),?_⟩
  walk_at "rd"
  refine ⟨_,_,.inr hp,aqi (j:=0) rfl,?_⟩
  have hl:=hx.length
  walk_at "rd"
  refine ⟨xs,.inr (.of hq),?_⟩
  refine ⟨cs,xs,p,q,e,rfl,hp,.of hq,hx,by omega,_,rfl,?_⟩
  rw [hl]
  have tail:¬ (hasRest cs=true∧cs.length ≤ n)->if (n:Int) - (cs.length:Int)=0 then Q (.ref q) H else Q .non H:=fun hnot => by
   refine ite2 (fun h0 => ?_) (fun h0 => ?_)
   ·refine k cs xs q H ?_ (Same.refl _) (.of hq) hx
    unfold spreadM
    rw [if_neg hnot,if_pos (by omega)]
   ·refine k0 ?_
    unfold spreadM
    rw [if_neg hnot,if_neg (by omega)]
  refine ite2 (fun hr => ite2 (fun hm => ?_) (fun hm => tail fun z => by omega)) (fun hr => tail fun z => hr z.1)
  have hd1:(xs.drop (xs.length - 1)).length ≤ 1:=by rw [List.length_drop]; omega
  have ht:((n:Int) - (cs.length:Int)).toNat=n - cs.length:=by omega
  refine ⟨_,hq,fun p1 H1 s1 e1 => ⟨_,e1,hm,by omega,?_,fun p2 H2 s2 e2 => .inr ⟨_,_,(s1.trans s2) _ _ hq,e2,?_,fun p3 H3 s3 e3 => ?_⟩⟩⟩
  ·rw [jqQ,ht]
   exact aqu (Nat.le_trans (Nat.mul_le_mul hd1 (Nat.le_refl _)) (by omega))
  ·rw [jqQ,ht]
   have:=pqG (xs.drop (xs.length - 1)) (n - cs.length) hd1
   exact aqu (by omega)
  ·rw [jqQ,ht,hl] at e3
   have s03:=s1.trans (s2.trans s3)
   refine k _ _ p3 H3 ?_ s03 (.of e3) (PcAll.append (((hx.drop (cs.length - 1)).reps (n - cs.length)).mono s03) (hx.mono s03))
   unfold spreadM
   rw [if_pos ⟨hr,by omega⟩]
theorem kqR (g:G w K mg):FnOk P w K mg base CX0 2 g.dq5 g.dqn ["part","step"] (kqO K):=by
 refine g.fqL.ok eqJ (fun vs H Q E h => ?_) (fun cdv A outer s H vs Q E hr h => ?_)
 ·obtain ⟨h1,n,t,s,p,rfl,_⟩:=h; rfl
 ·obtain ⟨h1,n,t,s,p,rfl,hp,hs,hh,ht,k⟩:=h
  refine ⟨_,(aqh (aqv (i:=2) eqJ.nd rfl (Or.inl rfl) (aqj (dqN g) (hr.mono (by decide)) rfl g.dqC g.cq4.kp g.dqL .nil pass0 (aqa (pv 0) aqb)))
   (aqh (aqv (i:=3) eqJ.nd rfl (Or.inl rfl) (aqj (dqR g) (hr.mono (by decide)) rfl g.dqX g.cq1.kp g.dqM .nil pass0 (aqa (pv 0) aqb)))
   (aqg (aqp (dqe (dqW (K:=K) rfl PySem.F.plainAttrs_str PySem.F.slot_str_startswith PySem.F.type_str_startswith nq4 (pv 1) (aqa (pv 2) aqb)) (dqe (dqW (K:=K) rfl PySem.F.plainAttrs_str PySem.F.slot_str_endswith PySem.F.type_str_endswith rqS (pv 1) (aqa (pv 3) aqb)) (cqu (aqQ oq7 (aqs (aqt (K:=K) rfl) rfl g.bqa PySem.boot_len (aqa (pv 1) aqb)) (aqn (pqu (K:=K) rfl) (aqs (aqt (K:=K) rfl) rfl g.bqa PySem.boot_len (aqa (pv 2) aqb)) (aqs (aqt (K:=K) rfl) rfl g.bqa PySem.boot_len (aqa (pv 3) aqb))) (nomark _))))))))),?_⟩
  walk_at "rd"
  refine ⟨_,p,rfl,hp,_,p,rfl,hp,?_⟩
  show rStart1 (tV s) [tV h1] H _
  rw [L2.pqd]
  have kp:partB h1 t s=(decide (s.take h1.length=h1) && (decide (s.drop (s.length - t.length)=t) && decide (h1.length + t.length < s.length))):=rfl
  rw [kp] at k
  refine ⟨_,rfl,ite2 (fun ha => ?_) (fun ha => ?_)⟩
  rotate_left
  ·rw [(Bool.not_eq_true _).mp ha] at k
   exact k
  rw [ha,Bool.true_and] at k
  show rEnd1 (tV s) [tV t] H _
  rw [L2.nqS]
  refine ⟨_,rfl,ite2 (fun hb => ?_) (fun hb => ?_)⟩
  rotate_left
  ·rw [(Bool.not_eq_true _).mp hb] at k
   exact k
  rw [hb,Bool.true_and] at k
  refine ⟨aqu hs,?_⟩
  show rLenU K [tV h1] H _
  walk_at "rd"
  refine ⟨aqu hh,aqu ht,?_⟩
  show Q (V.bl (decide ((h1.length:Int) + (t.length:Int) < (s.length:Int)))) H
  rw [show decide ((h1.length:Int) + (t.length:Int) < (s.length:Int))=decide (h1.length + t.length < s.length) from decide_eq_decide.mpr (by omega)]
  exact k
theorem kqw (g:G w K mg):FnOk P w K mg base CX0 2 g.eqh g.dqd ["text"] kq4:=by
 refine g.fqN.ok lqq (fun vs H Q E h => ?_) (fun cdv A outer s H vs Q E hr h => ?_)
 ·obtain ⟨l,rfl,_⟩:=h; rfl
 ·obtain ⟨l,rfl,hl,k⟩:=h
  refine ⟨_,(aqh (aqI (PW.pt (kq1 (hqh (qqM oqG oqG aqc (aqs (aqt (K:=K) rfl) rfl g.bqa PySem.boot_len (aqa (pv 0) aqb)) (aqO (v:=hql) rfl g.eqD ⟨_,rfl⟩))) (hqY (hqh (dqF (aqj (gqN g) (hr.mono (by decide)) rfl g.gqq g.fqb.kp g.fqU .nil pass0 (aqa (pv 0) (aqa (aqO (v:=kqv) rfl g.lqk ⟨_,rfl⟩) aqb))))))))
    (aqg (aqp hq4)) aqw)
   (aqg (aqp (pq1 (aqQ aqT (pv 0) aqr (nomark _)) (cqu (aqQ lqd (aqo (aqf (K:=K) rfl) (pv 0) aqc (fun _ _ => rfl)) aqr (nomark _))))))),?_⟩
  have eF:kqv=.str ⟨fgS.toArray⟩:=by
   show V.str (Str.ofString _)=_
   unfold fgS; simp
  have e0:Str.ofString "0" = ⟨[48].toArray⟩:=by decide +kernel
  rw [eF,e0]
  walk_at "rd"
  have no:∀ H',Same H H'->(¬ (1 ≤ l.length∧l.length ≤ 60∧l.all isFig=true))->Q (.bl false) H':=fun H' sm h => by
   have:numB l=false:=by
    unfold numB
    by_cases h1:1 ≤ l.length
    ·by_cases h2:l.length ≤ 60
     ·rw [show l.all isFig=false by simpa using fun z => h ⟨h1,h2,z⟩]; simp
     ·rw [decide_eq_false h2]; simp
    ·rw [decide_eq_false h1]; simp
   rw [<- this]
   exact k H' sm
  refine ⟨aqu hl,ite2 (fun h1 => ite2 (fun h2 => no _ (Same.refl _) (by omega)) (fun h2 => ?_)) (fun h1 => no _ (Same.refl _) (by omega))⟩
  refine ⟨_,_,rfl,hl,fun H' sm => ⟨_,rfl,?_⟩⟩
  have ea:((⟨l.toArray⟩:Str).cps.toList.all fun c => decide (c ∈ (⟨fgS.toArray⟩:Str).cps.toList))=l.all isFig:=by
   rw [<- sqt]
  rw [ea]
  refine ite2 (fun h3 => no H' sm (by rw [h3]; simp)) (fun h3 => ?_)
  have h3:l.all isFig=true:=by simpa using h3
  have en:numB l=(decide (l=[48]) || !decide (l.head?=some 48)):=by
   unfold numB
   rw [decide_eq_true (show 1 ≤ l.length by omega),decide_eq_true (show l.length ≤ 60 by omega),h3]
   rfl
  have k':=k H' sm
  rw [en] at k'
  cases l with
  | nil => simp at h1
  | cons c r =>
   refine ite2 (fun h4 => ?_) (fun h4 => ⟨c,aqu hl,aqi (j:=0) rfl,?_⟩)
   ·rw [decide_eq_true (dqT.mp h4)] at k'
    exact k'
   ·rw [decide_eq_false (fun z => h4 (by rw [z]))] at k'
    have:decide ((⟨#[c]⟩:Str)=⟨[48].toArray⟩)=decide ((c :: r).head?=some 48):=by
     refine decide_eq_decide.mpr ?_
     rw [show (⟨#[c]⟩:Str)=⟨[c].toArray⟩ from rfl,dqT]
     simp
    first | (rw [this]; simpa using k') | (simp at this ⊢; simpa [this] using k')
theorem iq2 (g:G w K mg):FnOk P w K mg base CX0 2 g.fqR g.fqr ["text"] nqg:=by
 refine g.gqf.ok nqr (fun vs H Q E h => ?_) (fun cdv A outer s H vs Q E hr h => ?_)
 ·obtain ⟨l,rfl,_⟩:=h; rfl
 ·obtain ⟨l,rfl,hl,k⟩:=h
  refine ⟨_,(aqg (aqp (dqe (mqG oqG oqG aqc (aqs (aqt (K:=K) rfl) rfl g.bqa PySem.boot_len (aqa (pv 0) aqb)) (aqO (v:=iqB) rfl g.fqD ⟨_,rfl⟩)) (cqu (aqj (gqN g) (hr.mono (by decide)) rfl g.gqq g.fqb.kp g.fqU .nil pass0 (aqa (pv 0) (aqa (aqO (v:=eqS) rfl g.eq7 ⟨_,rfl⟩) aqb))))))),?_⟩
  have eF:eqS=.str ⟨smaL.toArray⟩:=by
   show V.str (Str.ofString _)=_
   unfold smaL; simp
  rw [eF]
  walk_at "rd"
  have no:(¬ (1 ≤ l.length∧l.length ≤ 60))->Q (.bl false) H:=fun h => by
   have:wordB l=false:=by
    unfold wordB
    by_cases h1:1 ≤ l.length
    ·rw [decide_eq_false (show ¬ l.length ≤ 60 from fun z => h ⟨h1,z⟩)]; simp
    ·rw [decide_eq_false h1]; simp
   rw [<- this]
   exact k H (Same.refl _)
  refine ⟨aqu hl,ite2 (fun h1 => ite2 (fun h2 => ?_) (fun h2 => no (by omega))) (fun h1 => no (by omega))⟩
  refine ⟨_,_,rfl,hl,fun H' sm => ?_⟩
  have e:wordB l=(l.all fun c => decide (c ∈ smaL)):=by
   unfold wordB
   rw [decide_eq_true (show 1 ≤ l.length by omega),decide_eq_true (show l.length ≤ 60 by omega),sqV]
   rfl
  have:=k H' sm
  rw [e] at this
  simpa using this
theorem iqO (g:G w K mg):FnOk P w K mg base CX0 2 g.cqN g.cqc ["gap","steps"] (iqJ K):=by
 refine g.eqe.ok iqH (fun vs H Q E h => ?_) (fun cdv A outer s H vs Q E hr h => ?_)
 ·obtain ⟨c,s,ss,p,q,rfl,_⟩:=h; rfl
 ·obtain ⟨c,s,ss,p,q,rfl,hp,hq,hf,hs,hh,ht,hn,k⟩:=h
  refine ⟨_,(aqh (aqI (aqm aqT (aqo (aqf (K:=K) rfl) (pv 0) aqc (fun _ _ => rfl)) aqr (nomark _))
    (aqg (aqp (bqT (jqj (K:=K) rfl) rfl g.mqu lqA (aqa (pv 1) aqb)))) aqw)
   (aqh (aqI (aqm aqT (aqo (aqf (K:=K) rfl) (pv 0) aqc (fun _ _ => rfl)) aqr (nomark _))
    (aqg (aqp (bqT oqc rfl g.rqT qq3 (aqa (aqo (aqf (K:=K) rfl) (pv 1) aqc (fun _ _ => rfl)) aqb)))) aqw)
   (aqg (aqp (cqd (sq2 (K:=K) rfl) (aqo (aqf (K:=K) rfl) (pv 1) aqc (fun _ _ => rfl)) (bqD (aqs (aqt (K:=K) rfl) rfl g.bqa PySem.boot_len (aqa (aqj (dqN g) (hr.mono (by decide)) rfl g.dqC g.cq4.kp g.dqL .nil pass0 (aqa (pv 0) aqb)) aqb))) (bqD (aqn mqq (aqs (aqt (K:=K) rfl) rfl g.bqa PySem.boot_len (aqa (aqo (aqf (K:=K) rfl) (pv 1) aqc (fun _ _ => rfl)) aqb)) (aqs (aqt (K:=K) rfl) rfl g.bqa PySem.boot_len (aqa (aqj (dqR g) (hr.mono (by decide)) rfl g.dqX g.cq1.kp g.dqM .nil pass0 (aqa (pv 0) aqb)) aqb))))))))),?_⟩
  walk_at "rd"
  refine ⟨_,_,.inr hp,c.at0,?_⟩
  refine L2.aqy.mpr ⟨_,rfl,?_⟩
  rw [gqz]
  have rest:c.isRest=false->c.isNum=false->c.head.length + c.tail.length ≤ s.length->∃ xs v,(SqL K H q xs ∨ SqT K H q xs)∧atI xs 0=some v∧iq9 K [V.ref p] H (fun x H1 => rLenU K [x] H1 fun x H1 => ∃ i,x=V.int i∧∃ xs v_1,(SqL K H1 q xs ∨ SqT K H1 q xs)∧atI xs 0=some v_1∧rLenU K [v_1] H1 fun x H1 => jqc K [V.ref p] H1 (fun x_1 H1 => rLenU K [x_1] H1 fun y H2 => rI0 (fun i j => V.int (i - j)) x y H2 fun x H1 => ∃ i_1,x=V.int i_1∧rSl K v (some i) (some i_1) H1 Q) E0) E0:=fun h1 h2 hle => by
   refine ⟨_,_,.inr (.of hq),aqi (j:=0) rfl,c,p,rfl,hp,aqu hh,_,rfl,_,_,.inr (.of hq),aqi (j:=0) rfl,aqu hs,c,p,rfl,hp,aqu ht,?_⟩
   refine ⟨_,_,rfl,rfl,_,rfl,?_⟩
   refine L2.rqk.mpr ⟨aqu hs,?_⟩
   show Q (.str (Txt.slice ⟨s.toArray⟩ (some (c.head.length:Int)) (some ((s.length:Int) - (c.tail.length:Int))))) H
   rw [show (s.length:Int) - (c.tail.length:Int)=((s.length - c.tail.length:Nat):Int) by omega,nqJ]
   refine k _ H (Same.refl _) ?_ (fun q z => by cases z)
   cases c with
   | rest n => cases h1
   | num n => cases h2
   | _ => rfl
  cases c with
  | rest n =>
   refine ite2 (fun _ => ?_) (fun z => absurd rfl z)
   exact ⟨_,.inr (.of hq),fun l H1 n1 s1 e1 => k _ H1 s1 ⟨l,rfl,e1⟩ (fun q z => by cases z; exact n1)⟩
  | num n =>
   refine ite2 (fun z => by cases z) (fun _ => ⟨_,_,.inr hp,Pc.at0 _,?_⟩)
   refine L2.aqy.mpr ⟨_,rfl,?_⟩
   rw [fq0]
   refine ite2 (fun _ => ⟨_,_,.inr (.of hq),aqi (j:=0) rfl,?_⟩) (fun z => absurd rfl z)
   have hn:=jqU hf
   exact ⟨⟨s.toArray⟩,intOf s,rfl,by show s.length ≤ 640; omega,tqb hn.2.2 hn.1 hn.2.1,k _ H (Same.refl _) rfl (fun q z => by cases z)⟩
  | part h n t =>
   refine ite2 (fun z => by cases z) (fun _ => ⟨_,_,.inr hp,Pc.at0 _,?_⟩)
   refine L2.aqy.mpr ⟨_,rfl,?_⟩
   rw [fq0]
   exact ite2 (fun z => by cases z) (fun _ => rest rfl rfl (jq7 hf))
  | _ =>
   refine ite2 (fun z => by cases z) (fun _ => ⟨_,_,.inr hp,Pc.at0 _,?_⟩)
   refine L2.aqy.mpr ⟨_,rfl,?_⟩
   rw [fq0]
   exact ite2 (fun z => by cases z) (fun _ => rest rfl rfl (by show 0 + 0 ≤ _; omega))
theorem gqF (g:G w K mg):FnOk P w K mg base CX0 2 g.bqB g.bqo ["gap","value"] (gqM K):=by
 refine g.cqp.ok gqK (fun vs H Q E h => ?_) (fun cdv A outer s H vs Q E hr h => ?_)
 ·obtain ⟨c,p,d,v,rfl,_⟩:=h; rfl
 ·obtain ⟨c,p,d,v,rfl,hp,hc,hh,ht,hv,hs,hval,k⟩:=h
  refine ⟨_,(aqh (aqI (aqm aqT (aqo (aqf (K:=K) rfl) (pv 0) aqc (fun _ _ => rfl)) aqr (nomark _))
    (aqg (aqp (pv 1))) aqw)
   (aqh (aqI (aqm aqT (aqo (aqf (K:=K) rfl) (pv 0) aqc (fun _ _ => rfl)) aqr (nomark _))
    (aqg (aqp (aqC (aqa (bqT hqb rfl g.oqI mqj (aqa (pv 1) aqb)) aqb)))) aqw)
   (aqg (aqp (aqC (aqa (aqn (aqx (K:=K)) (aqn (aqx (K:=K)) (aqj (dqN g) (hr.mono (by decide)) rfl g.dqC g.cq4.kp g.dqL .nil pass0 (aqa (pv 0) aqb)) (pv 1)) (aqj (dqR g) (hr.mono (by decide)) rfl g.dqX g.cq1.kp g.dqM .nil pass0 (aqa (pv 0) aqb))) aqb)))))),?_⟩
  walk_at "rd"
  have b3:300000 ≤ sizeLine:=by decide
  refine ⟨_,_,.inr hp,c.at0,aqy.mpr ⟨_,rfl,?_⟩⟩
  rw [gqz]
  refine ite2 (fun hrs => ?_) (fun hrs => ⟨_,_,.inr hp,c.at0,aqy.mpr ⟨_,rfl,?_⟩⟩)
  ·cases c with
   | rest n =>
    cases hv with
    | lst hl r =>
     rename_i a xs ds
     have e:isValD (.rest n) (.list ds)=(decide (0 < ds.length) && ds.all canD):=rfl
     rw [e,Bool.and_eq_true] at hval
     refine k a H (Same.refl _) ?_
     rw [hl,lqm r hval.2]
     rfl
    | _ => cases hval
   | _ => cases hrs
  rw [fq0]
  refine ite2 (fun hnm => ?_) (fun hnm => ?_)
  ·cases c with
   | num n =>
    cases hv with
    | int i =>
     have e:isValD (.num n) (.int i)=decide (0 ≤ i∧i < 10 ^ 60):=rfl
     rw [e] at hval
     have h60:=of_decide_eq_true hval
     have hlg:i.natAbs.log2 < 1920:=by
      by_cases h0:i.natAbs=0
      ·rw [h0]; decide
      ·rw [Nat.log2_lt h0]
       have:i.natAbs < 10 ^ 60:=by omega
       exact Nat.lt_of_lt_of_le this (by decide +kernel)
     exact ⟨i,rfl,hlg,by decide,fun p1 H1 n1 s1 hp1 => k p1 H1 s1 hp1⟩
    | _ => cases hval
   | _ => cases hnm
  ·have e:isValD c d=(ftx d && !isDot (c.head ++ txD d ++ c.tail)) ∨ c.isWord=true:=by
    cases c with
    | part a b e => exact .inl rfl
    | gap n => exact .inl (show (ftx d && !isDot (txD d))=(ftx d && !isDot ([] ++ txD d ++ [])) by rw [List.nil_append,List.append_nil])
    | step s => cases hc
    | num n => exact absurd rfl hnm
    | word n => exact .inr rfl
    | rest n => exact absurd rfl hrs
   have e2:stpsD c d=[c.head ++ txD d ++ c.tail]:=by
    cases c with
    | step s => cases hc
    | num n => exact absurd rfl hnm
    | rest n => exact absurd rfl hrs
    | _ => rfl
   cases hv with
   | str x =>
    obtain ⟨⟨l⟩⟩:=x
    have hl:l.length ≤ 100000:=eqQ hs
    refine ⟨c,p,rfl,hp,cqq.mpr ⟨Nat.le_trans (show c.head.length + l.length ≤ 300000 by omega) b3,c,p,rfl,hp,cqq.mpr ⟨?_,by decide,fun p1 H1 n1 s1 hp1 => k p1 H1 s1 ?_⟩⟩⟩
    ·show ((⟨c.head.toArray⟩:Str) ++ ⟨l.toArray⟩).length + c.tail.length ≤ _
     rw [dqr,bqr,List.length_append]
     omega
    ·rw [hp1,e2]
     show some (HO.lst [V.str ((⟨c.head.toArray⟩:Str) ++ ⟨l.toArray⟩ ++ ⟨c.tail.toArray⟩)])=_
     rw [dqr,dqr]
     rfl
   | _ =>
    rcases e with e | e
    ·rw [e] at hval; cases hval
    ·cases c with
     | word n => cases hval
     | _ => cases e
theorem dq8 (g:G w K mg):FnOk P w K mg base CX0 2 g.fqh g.dqZ ["piece"] (lqv K):=by
 refine g.cqQ.ok hqR (fun vs H Q E h => ?_) (fun cdv A outer s H vs Q E hr h => ?_)
 ·obtain ⟨c,p,rfl,_⟩:=h; rfl
 ·obtain ⟨c,p,rfl,hp,hz,k⟩:=h
  refine ⟨_,(aqh (aqv (i:=1) hqR.nd rfl (Or.inl rfl) (aqj (dqN g) (hr.mono (by decide)) rfl g.dqC g.cq4.kp g.dqL .nil pass0 (aqa (pv 0) aqb)))
   (aqg (aqp (aqR (aqa (uqv (g.eqz P) (aqO (v:=.ref g.bqz) rfl g.equ rfl) (aqo (aqf (K:=K) rfl) (pv 0) aqc (fun _ _ => rfl)) (fun _ _ => rfl)) (aqa (aqn (aqx (K:=K)) (aqs (aqt (K:=K) rfl) rfl g.bqa PySem.boot_len (aqa (pv 1) aqb)) (aqs (aqt (K:=K) rfl) rfl g.bqa PySem.boot_len (aqa (aqj (dqR g) (hr.mono (by decide)) rfl g.dqX g.cq1.kp g.dqM .nil pass0 (aqa (pv 0) aqb)) aqb))) (aqa (aqs (aqt (K:=K) rfl) rfl g.bqa PySem.boot_len (aqa (pv 1) aqb)) aqb))))))),?_⟩
  walk_at "rd"
  refine ⟨c,p,rfl,hp,?_⟩
  refine ⟨_,_,.inr hp,c.at0,c.kw,wordW c,rfl,?_,?_⟩
  ·cases c with
   | step w => show Spec.lookup (PyData.str (Str.ofString "step")) _=some (PyData.int 6); with_unfolding_all kernel_rfl
   | part a n b => show Spec.lookup (PyData.str (Str.ofString "part")) _=some (PyData.int 5); with_unfolding_all kernel_rfl
   | num n => show Spec.lookup (PyData.str (Str.ofString "number")) _=some (PyData.int 4); with_unfolding_all kernel_rfl
   | word n => show Spec.lookup (PyData.str (Str.ofString "word")) _=some (PyData.int 3); with_unfolding_all kernel_rfl
   | gap n => show Spec.lookup (PyData.str (Str.ofString "gap")) _=some (PyData.int 2); with_unfolding_all kernel_rfl
   | rest n => show Spec.lookup (PyData.str (Str.ofString "rest")) _=some (PyData.int 1); with_unfolding_all kernel_rfl
  have h1:=hz.1
  have h2:=hz.2.1
  refine ⟨aqu (by rw [bqr]; omega),c,p,rfl,hp,aqu (by rw [bqr]; omega),aqu (by rw [bqr]; omega),by decide,fun r H1 n1 s1 hr => ?_⟩
  exact k r H1 s1 hr
theorem dqt (g:G w K mg):FnOk P w K mg base CX0 2 g.eqj g.dqo ["_law_cell"] (kq7 K):=by
 refine g.bq7.ok cqk (fun vs H Q E h => ?_) (fun cdv A outer s H vs Q E hr h => ?_)
 ·obtain ⟨c,rfl,_⟩:=h; rfl
 ·obtain ⟨c,rfl,k⟩:=h
  refine ⟨_,(aqh (aqv (i:=1) cqk.nd rfl (Or.inl rfl) (aqo (aqf (K:=K) rfl) (aqC (aqa aqr (aqa aqr (aqa aqr (aqa aqr (aqa (pqZ (jq6 g) (hr.mono (by decide)) rfl g.gqZ g.eqY.kp g.gqW .nil pass0) (aqa aqr aqb))))))) (aqn aqJ (pv 0) aqc) (fun _ _ => rfl)))
   (aqh (aqv (i:=2) cqk.nd rfl (Or.inl rfl) aqr)
   (aqh (cqv PassesOwn.never rfl (cql rfl g.dq6 (aqa (aqn aqJ (aqn aqA (pv 0) aqc) aqc) aqb)) (aqE (i:=3) cqk.nd rfl (Or.inl rfl))
   (aqg (aqv (i:=2) cqk.nd rfl (Or.inl rfl) (aqn (aqx (K:=K)) (pv 2) (aqo (aqf (K:=K) rfl) (pv 1) (aqn aqJ (aqn aqA (pv 0) (aqn (aqx (K:=K)) aqc (aqn eqt (aqn eqt aqc (pv 3)) (pv 3)))) (aqs (aqt (K:=K) rfl) rfl g.bqa PySem.boot_len (aqa (pv 1) aqb))) (fun _ _ => rfl))))))
   (aqg (aqp (pv 2)))))),?_⟩
  walk_at "rd"
  refine ⟨by decide,fun p H1 n1 s1 e1 => ⟨by decide,?_⟩⟩
  obtain ⟨v,hv,hat⟩:=rqC [V.str (Str.ofString "ab"),V.str (Str.ofString "a1"),V.str (Str.ofString "0123456789"),V.str (Str.ofString "a."),V.str { cps:=SG.toArray },V.str (Str.ofString "./{}~ab")] c 6 (by decide) (by decide)
  have hpool:∃ l:List Nat,v=tV l∧0 < l.length∧l.length ≤ 94∧∀ c ∈ l,isSg c=true:=by
   simp only [List.mem_cons,List.not_mem_nil,or_false] at hv
   rcases hv with rfl | rfl | rfl | rfl | rfl | rfl
   ·exact ⟨[97,98],congrArg V.str (by decide +kernel),by decide,by decide,by decide⟩
   ·exact ⟨[97,49],congrArg V.str (by decide +kernel),by decide,by decide,by decide⟩
   ·exact ⟨[48,49,50,51,52,53,54,55,56,57],congrArg V.str (by decide +kernel),by decide,by decide,by decide⟩
   ·exact ⟨[97,46],congrArg V.str (by decide +kernel),by decide,by decide,by decide⟩
   ·exact ⟨SG,rfl,by rw [rqg]; decide,by rw [rqg]; decide,fun c hc => rqh.mp hc⟩
   ·exact ⟨[46,47,123,125,126,97,98],congrArg V.str (by decide +kernel),by decide,by decide,by decide⟩
  obtain ⟨pl,rfl,hp0,hp94,hpl⟩:=hpool
  refine ⟨_,_,.inl (.of e1),hat,⟨by decide,by decide⟩,by decide,by omega,by omega,?_⟩
  refine dqQ (fun j σ H2 => H2=H1∧∃ (w:List Nat) (v3:Option V),σ=[some (.int c),some (tV pl),some (tV w),v3]∧w.length=j∧∀ c ∈ w,isSg c=true) ⟨rfl,[],none,rfl,rfl,by simp⟩ ?_ ?_
  ·rintro j σ H2 hj ⟨rfl,w,v3,rfl,hwl,hw⟩
   have hj5:j=0 ∨ j=1 ∨ j=2 ∨ j=3 ∨ j=4:=by omega
   have hb:0 < 30 + 17 * (0 + (j:Int)) * (0 + (j:Int))∧30 + 17 * (0 + (j:Int)) * (0 + (j:Int)) < 1073741824:=by
    rcases hj5 with rfl | rfl | rfl | rfl | rfl <;> decide
   obtain ⟨d,hd,hda⟩:=jq1 pl (c / (30 + 17 * (0 + (j:Int)) * (0 + (j:Int)))) (pl.length:Int) (by omega) (by omega)
   walk_at "rd"
   refine ⟨.inl ⟨by decide,by decide⟩,.inr ⟨by omega,by omega⟩,hb,aqu (by omega),by omega,d,aqu (by omega),hda,aqu (by omega),w ++ [d],_,⟨by simp,rfl⟩,by rw [List.length_append,List.length_singleton,hwl],fun e he => ?_⟩
   rcases List.mem_append.mp he with z | z
   ·exact hw e z
   ·rw [List.mem_singleton.mp z]; exact hpl d hd
  ·rintro σ H2 ⟨rfl,w,v3,rfl,hwl,hw⟩
   walk_at "rd"
   exact k w H2 (by omega) hw s1
theorem dqE (g:G w K mg):FnOk P w K mg base CX0 3 g.bqA g.bqp ["thing"] gqI:=by
 refine g.bqx.ok gqP (fun vs H Q E h => ?_) (fun cdv A outer s H vs Q E hr h => ?_)
 ·obtain ⟨d,v,rfl,_⟩:=h; rfl
 ·obtain ⟨d,v,rfl,hv,hs,k⟩:=h
  refine ⟨_,(aqg (aqp (dqe (aqj (nqw g) (hr.mono (by decide)) rfl g.kqV g.iqj.kp g.kqo .nil pass0 (aqa (pv 0) aqb)) (cqu (aqQ oq7 (aqs (aqt (K:=K) rfl) rfl g.bqa PySem.boot_len (aqa (pv 0) aqb)) aqc (nomark _)))))),?_⟩
  walk_at "rd"
  refine ⟨d,v,rfl,hv,hs,fun H1 s1 => ?_⟩
  walk_at "rd"
  have k1:=k H1 s1
  cases hv with
  | str x =>
   refine ite2 (fun h => ?_) (fun h => ?_)
   ·walk_at "rd"
    refine ⟨aqu (eqQ hs),?_⟩
    have e:ftx (.str x)=decide ((0:Int) < (x.length:Int)):=by
     simp only [ftx]
     rw [show x.cps.toList.all isSg=true from h,Bool.true_and]
     exact decide_eq_decide.mpr (by omega)
    rw [e] at k1
    exact k1
   ·rw [show ftx (.str x)=false by simp only [ftx]; rw [show x.cps.toList.all isSg=false from (Bool.not_eq_true _).mp h,Bool.false_and]] at k1
    exact k1
  | _ => exact k1
theorem lqa (g:G w K mg):FnOk P w K mg base CX0 3 g.dq0 g.dqx ["piece","step"] (kqD K):=by
 refine g.fqI.ok kqA (fun vs H Q E h => ?_) (fun cdv A outer s H vs Q E hr h => ?_)
 ·obtain ⟨c,s,p,rfl,_⟩:=h; rfl
 ·obtain ⟨c,s,p,rfl,hp,hs,hh,ht,k⟩:=h
  refine ⟨_,(aqh (aqI (dqF (aqj (hqL g) (hr.mono (by decide)) rfl g.hqA g.gql.kp g.hqt .nil pass0 (aqa (pv 1) aqb)))
    (aqg (aqp hq4)) aqw)
   (aqh (aqI (aqm aqT (aqo (aqf (K:=K) rfl) (pv 0) aqc (fun _ _ => rfl)) aqr (nomark _))
    (aqg (aqp (aqQ aqT (pv 1) (aqo (aqf (K:=K) rfl) (pv 0) aqc (fun _ _ => rfl)) (nomark _)))) aqw)
   (aqh (aqI (aqm aqT (aqo (aqf (K:=K) rfl) (pv 0) aqc (fun _ _ => rfl)) aqr (nomark _))
    (aqg (aqp (aqj (kqR g) (hr.mono (by decide)) rfl g.hqN g.fqL.kp g.iqo .nil pass0 (aqa (pv 0) (aqa (pv 1) aqb))))) aqw)
   (aqh (aqI (aqm aqT (aqo (aqf (K:=K) rfl) (pv 0) aqc (fun _ _ => rfl)) aqr (nomark _))
    (aqg (aqp (aqj (kqw g) (hr.mono (by decide)) rfl g.iqk g.fqN.kp g.hqM .nil pass0 (aqa (pv 1) aqb)))) aqw)
   (aqg (aqp (fql (aqm aqT (aqo (aqf (K:=K) rfl) (pv 0) aqc (fun _ _ => rfl)) aqr (nomark _)) (aqj (iq2 g) (hr.mono (by decide)) rfl g.hqT g.gqf.kp g.iqs .nil pass0 (aqa (pv 1) aqb)) hq4))))))),?_⟩
  walk_at "rd"
  refine ⟨s,rfl,_,rfl,?_⟩
  have kk:=k
  by_cases hdt:isDot s=true
  ·rw [if_pos hdt]
   have e:fitsM c s=false:=by unfold fitsM; rw [hdt]; rfl
   rw [e] at k
   exact k H (Same.refl _)
  rw [if_neg hdt]
  have hdf:isDot s=false:=by simpa using hdt
  refine ⟨_,_,.inr hp,c.at0,?_⟩
  refine L2.aqy.mpr ⟨_,rfl,?_⟩
  rw [jq8]
  cases c with
  | step w =>
   refine ite2 (fun _ => ⟨_,_,.inr hp,aqi (j:=1) rfl,?_⟩) (fun z => absurd rfl z)
   refine L2.aqy.mpr ?_
   have e:fitsM (.step w) s=decide ((⟨s.toArray⟩:Str)=⟨w.toArray⟩):=by
    unfold fitsM; rw [hdf]
    show decide (s=w)=_
    exact decide_eq_decide.mpr dqT.symm
   rw [<- e]
   exact k H (Same.refl _)
  | part h n t =>
   refine ite2 (fun z => by cases z) (fun _ => ⟨_,_,.inr hp,Pc.at0 _,?_⟩)
   refine L2.aqy.mpr ⟨_,rfl,?_⟩
   rw [cqY]
   refine ite2 (fun _ => ?_) (fun z => absurd rfl z)
   have e:fitsM (.part h n t) s=partB h t s:=by unfold fitsM; rw [hdf]; rfl
   exact ⟨h,n,t,s,p,rfl,hp,hs,hh,ht,by rw [<- e]; exact k H (Same.refl _)⟩
  | num n =>
   refine ite2 (fun z => by cases z) (fun _ => ⟨_,_,.inr hp,Pc.at0 _,?_⟩)
   refine L2.aqy.mpr ⟨_,rfl,?_⟩
   rw [cqY]
   refine ite2 (fun z => by cases z) (fun _ => ⟨_,_,.inr hp,Pc.at0 _,?_⟩)
   refine L2.aqy.mpr ⟨_,rfl,?_⟩
   rw [fq0]
   refine ite2 (fun _ => ?_) (fun z => absurd rfl z)
   have e:fitsM (.num n) s=numB s:=by unfold fitsM; rw [hdf]; rfl
   exact ⟨s,rfl,hs,fun H' sm => by rw [<- e]; exact k H' sm⟩
  | word n =>
   refine ite2 (fun z => by cases z) (fun _ => ⟨_,_,.inr hp,Pc.at0 _,?_⟩)
   refine L2.aqy.mpr ⟨_,rfl,?_⟩
   rw [cqY]
   refine ite2 (fun z => by cases z) (fun _ => ⟨_,_,.inr hp,Pc.at0 _,?_⟩)
   refine L2.aqy.mpr ⟨_,rfl,?_⟩
   rw [fq0]
   refine ite2 (fun z => by cases z) (fun _ => ⟨_,_,.inr hp,Pc.at0 _,?_⟩)
   refine L2.aqy.mpr ⟨_,rfl,?_⟩
   rw [jqz]
   refine ite2 (fun _ => ?_) (fun z => absurd rfl z)
   have e:fitsM (.word n) s=wordB s:=by unfold fitsM; rw [hdf]; rfl
   exact ⟨s,rfl,hs,fun H' sm => by rw [<- e]; exact k H' sm⟩
  | _ =>
   refine ite2 (fun z => by cases z) (fun _ => ⟨_,_,.inr hp,Pc.at0 _,?_⟩)
   refine L2.aqy.mpr ⟨_,rfl,?_⟩
   rw [cqY]
   refine ite2 (fun z => by cases z) (fun _ => ⟨_,_,.inr hp,Pc.at0 _,?_⟩)
   refine L2.aqy.mpr ⟨_,rfl,?_⟩
   rw [fq0]
   refine ite2 (fun z => by cases z) (fun _ => ⟨_,_,.inr hp,Pc.at0 _,?_⟩)
   refine L2.aqy.mpr ⟨_,rfl,?_⟩
   rw [jqz]
   refine ite2 (fun z => by cases z) (fun _ => ?_)
   have e:=k H (Same.refl _)
   unfold fitsM at e
   rw [hdf] at e
   exact e
theorem gqO (g:G w K mg):FnOk P w K mg base (CXN P w base) 3 g.bqR g.bqC ["pattern","values"] (gqA K g.aqD):=by
 refine g.cq3.okn bqw (fun vs H Q E h => ?_) (fun cdv A outer s H vs Q E hr h => ?_)
 ·obtain ⟨cs,xs,p,q,pz,cl,ws,ys,rfl,_⟩:=h; rfl
 ·obtain ⟨cs,xs,p,q,pz,cl,ws,ys,rfl,hp,hq,hx,hn,hpv,hw,hwl,kQ,kE⟩:=h
  refine ⟨_,(aqh (aqv (i:=2) bqw.nd rfl (Or.inl rfl) (aqj (lq2 g) (hr.mono (by decide)) rfl g.iq4 g.gqG.kp g.iq3 .nil pass0 (aqa (aqo (aqf (K:=K) rfl) (pv 0) (aqO (v:=cqM) rfl g.cqj ⟨_,rfl⟩) (fun _ _ => rfl)) aqb)))
   (aqg (cqv PassesOwn.leaving rfl (dq2 (K:=K) rfl (pv 1)) (eqP (n:=2) (K:=K) rfl rfl (aqS (aqE (i:=3) bqw.nd rfl (Or.inl rfl)) (aqS (aqE (i:=4) bqw.nd rfl (Or.inl rfl)) eqp)))
   (aqg (aqI (aqm (oqq (K:=K) rfl) (pv 3) (pv 2) (by with_unfolding_all rfl))
    (aqg (kqy jqi rfl g.gqb g.iqh (cqZ g) (hr.mono (by decide)) g.bqS rfl pass0 rfl (aqa (pv 3) aqb))) aqw))))),?_⟩
  walk_at "rd"
  refine ⟨_,_,.inr hp,rfl,cs,xs,q,rfl,hq,hx,by omega,fun p1 H1 s1 hp1 => ⟨⟨_,.of (s1 _ _ hpv)⟩,?_⟩⟩
  have hgl:=jq0 cs
  refine gqw (xs:=ys) (fun i σ H' => Same H1 H'∧(∀ w ∈ ws.take i,w.1 ∈ gapsM cs)∧∃ v3 v4,σ=[some (.ref p),some (.ref pz),some (.ref p1),v3,v4]) ⟨Same.refl _,(fun w hw => by rw [List.take_zero] at hw; cases hw),none,none,rfl⟩ (fun i σ H' _ h => .of ((s1.trans h.1) _ _ hpv)) ?_ ?_
  ·rintro i x σ H2 hxi ⟨s2,hpre,v3,v4,rfl⟩
   obtain ⟨n,d,b,v,h1,rfl,h3,h4⟩:=hw.get hxi
   have s12:=s1.trans s2
   walk_at "rd"
   refine ⟨b,_,rfl,.of (s12 _ _ h3),rfl,_,_,rfl,_,_,rfl,rfl,p1,_,rfl,.inl (.of (s2 _ _ hp1)),rfl,?_,_,rfl,?_⟩
   ·exact List.all_eq_true.mpr fun y hy => by obtain ⟨z,_,rfl⟩:=List.mem_map.mp hy; rfl
   have e:inV (tV n) ((gapsM cs).map tV)=decide (n ∈ gapsM cs):=sq9 n (gapsM cs)
   rw [e]
   by_cases hg:n ∈ gapsM cs
   ·rw [decide_eq_true hg]
    refine ite2 (fun z => absurd z (by decide)) (fun _ => ⟨s2,fun w hw' => ?_,_,_,rfl,rfl⟩)
    rw [List.take_add_one,h1] at hw'
    rcases List.mem_append.mp hw' with z | z
    ·exact hpre w z
    ·have:w=(n,d):=by simpa using z
     rw [this]; exact hg
   ·rw [decide_eq_false hg]
    refine ite2 (fun _ => ?_) (fun z => absurd rfl z)
    exact iqY fun dd H3 s3 hd => kE n (kqf h1 hpre hg) dd H3 (s12.trans s3) hd
  ·rintro σ H2 ⟨s2,hpre,v3,v4,rfl⟩
   rw [hw.length,List.take_length] at hpre
   exact kQ (jqk hpre) H2 (s1.trans s2)
theorem jqJ (g:G w K mg):FnOk P w K mg base CX0 3 g.dqi g.cqx ["one","other"] (jqV K):=by
 refine g.eq8.ok eqn (fun vs H Q E h => ?_) (fun cdv A outer s H vs Q E hr h => ?_)
 ·obtain ⟨cs,ds,xs,ys,p,q,p',q',e,e',rfl,_⟩:=h; rfl
 ·obtain ⟨cs,ds,xs,ys,p,q,p',q',e,e',rfl,hp,hq,hx,hp',hq',hy,hcl,hdl,oc,od,k⟩:=h
  refine ⟨_,(aqh (cqv PassesOwn.never rfl (qq2 (K:=K) rfl rfl g.sqp (aqa (aqo (aqf (K:=K) rfl) (pv 0) (aqO (v:=cqM) rfl g.cqj ⟨_,rfl⟩) (fun _ _ => rfl)) (aqa (aqo (aqf (K:=K) rfl) (pv 1) (aqO (v:=cqM) rfl g.cqj ⟨_,rfl⟩) (fun _ _ => rfl)) aqb))) (eqP (n:=2) (K:=K) rfl rfl (aqS (aqE (i:=2) eqn.nd rfl (Or.inl rfl)) (aqS (aqE (i:=3) eqn.nd rfl (Or.inl rfl)) eqp)))
   (aqg (aqI (aqm (gqk hr.units) (aqj (dq8 g) (hr.mono (by decide)) rfl g.dqP g.cqQ.kp g.dqK .nil pass0 (aqa (pv 2) aqb)) (aqj (dq8 g) (hr.mono (by decide)) rfl g.dqP g.cqQ.kp g.dqK .nil pass0 (aqa (pv 3) aqb)) (nomark _))
    (aqg (aqp (aqQ (tqV (K:=K) rfl hr.units) (aqj (dq8 g) (hr.mono (by decide)) rfl g.dqP g.cqQ.kp g.dqK .nil pass0 (aqa (pv 2) aqb)) (aqj (dq8 g) (hr.mono (by decide)) rfl g.dqP g.cqQ.kp g.dqK .nil pass0 (aqa (pv 3) aqb)) (nomark _)))) aqw)))
   (aqg (aqp (aqQ lqz (aqs (aqt (K:=K) rfl) rfl g.bqa PySem.boot_len (aqa (aqo (aqf (K:=K) rfl) (pv 0) (aqO (v:=cqM) rfl g.cqj ⟨_,rfl⟩) (fun _ _ => rfl)) aqb)) (aqs (aqt (K:=K) rfl) rfl g.bqa PySem.boot_len (aqa (aqo (aqf (K:=K) rfl) (pv 1) (aqO (v:=cqM) rfl g.cqj ⟨_,rfl⟩) (fun _ _ => rfl)) aqb)) (nomark _))))),?_⟩
  walk_at "rd"
  have hxl:=hx.length
  have hyl:=hy.length
  refine ⟨_,_,.inr hp,aqi (j:=0) rfl,_,_,.inr hp',aqi (j:=0) rfl,q,q',xs,ys,⟨rfl,rfl⟩,hq,hq',?_⟩
  refine qqE (fun i σ H' => Same H H'∧∃ v2 v3:Option V,σ=[some (.ref p),some (.ref p'),v2,v3]∧moreM cs ds=moreM (cs.drop i) (ds.drop i)) ⟨Same.refl _,none,none,rfl,rfl⟩ (fun i σ H' hi ⟨s,_⟩ => ⟨s.tup hq,s.tup hq'⟩) ?_ ?_
  ·rintro i x y σ H1 T hxi hyi ⟨s1,v2,v3,rfl,hm⟩ hT
   obtain ⟨c,pc,hc,rfl,hpc⟩:=hx.get hxi
   obtain ⟨d,pd,hd,rfl,hpd⟩:=hy.get hyi
   have s2:=s1.trans (aqK (o:=.tup [.ref pc,.ref pd]) hT)
   refine ⟨T,_,rfl,.of aqk,rfl,_,_,rfl,_,_,rfl,rfl,?_⟩
   walk_at "rd"
   generalize upd H1 T (.tup [.ref pc,.ref pd])=H2 at s2
   have ocx:=oc c (List.mem_of_getElem? hc)
   have odx:=od d (List.mem_of_getElem? hd)
   refine ⟨c,pc,rfl,s2.tup hpc,ocx,fun r3 H3 s3 hr3 => ?_⟩
   have s23:=s2.trans s3
   refine ⟨d,pd,rfl,s23.tup hpd,odx,fun r4 H4 s4 hr4 => ?_⟩
   have s24:=s23.trans s4
   refine ⟨.tuple ((worthM c).map PyData.int),.tuple ((worthM d).map PyData.int),.tup (s4 _ _ hr3) (fqp _),.tup hr4 (fqp _),hq3 _,hq3 _,_,rfl,?_⟩
   rw [qqD]
   have ec:cs.drop i=c :: cs.drop (i + 1):=by obtain ⟨h1,h2⟩:=List.getElem?_eq_some_iff.mp hc; rw [<- h2]; exact List.drop_eq_getElem_cons h1
   have ed:ds.drop i=d :: ds.drop (i + 1):=by obtain ⟨h1,h2⟩:=List.getElem?_eq_some_iff.mp hd; rw [<- h2]; exact List.drop_eq_getElem_cons h1
   have hm2:moreM cs ds=if worthM c=worthM d then moreM (cs.drop (i + 1)) (ds.drop (i + 1)) else HT.lexLt (worthM d) (worthM c):=by rw [hm,ec,ed]; rfl
   refine ite2 (fun hne => ?_) (fun hne => ?_)
   ·have hne:¬ worthM c=worthM d:=by simpa using hne
    refine ⟨c,pc,rfl,s24.tup hpc,ocx,fun r5 H5 s5 hr5 => ⟨d,pd,rfl,(s24.trans s5).tup hpd,odx,fun r6 H6 s6 hr6 => ?_⟩⟩
    refine ⟨r5,r6,worthM c,worthM d,rfl,rfl,.of (s6 _ _ hr5),.of hr6,?_⟩
    rw [if_neg hne] at hm2
    rw [<- hm2]
    exact k H6 ((s24.trans s5).trans s6)
   ·have hne:worthM c=worthM d:=by simpa using hne
    rw [if_pos hne] at hm2
    exact ⟨s24,_,_,⟨rfl,rfl⟩,hm2⟩
  ·rintro σ H1 ⟨s1,v2,v3,rfl,hm⟩
   walk_at "rd"
   refine ⟨_,_,.inr (s1.tup hp),aqi (j:=0) rfl,xs,.inr (s1.tup hq),_,_,.inr (s1.tup hp'),aqi (j:=0) rfl,ys,.inr (s1.tup hq'),?_⟩
   have e1:moreM cs ds=decide ((xs.length:Int) < (ys.length:Int)):=by
    rw [hm,hxl,hyl]
    have hor:cs.drop (min cs.length ds.length)=[] ∨ ds.drop (min cs.length ds.length)=[]:=by simp only [List.drop_eq_nil_iff]; omega
    have hl:(cs.drop (min cs.length ds.length)).length < (ds.drop (min cs.length ds.length)).length ↔ (cs.length:Int) < (ds.length:Int):=by
     rw [List.length_drop,List.length_drop]; omega
    rw [<- decide_eq_decide.mpr hl]
    exact qqJ hor
   walk_at "rd"
   rw [<- e1]
   exact k H1 s1
theorem eq4 (g:G w K mg):FnOk P w K mg base CX0 3 g.eqb g.dqm ["_law_cell"] (lqe K):=by
 refine g.cq6.ok fqc (fun vs H Q E h => ?_) (fun cdv A outer s H vs Q E hr h => ?_)
 ·obtain ⟨c,rfl,_⟩:=h; rfl
 ·obtain ⟨c,rfl,k⟩:=h
  refine ⟨_,(aqh (aqv (i:=1) fqc.nd rfl (Or.inl rfl) (aqj (dqt g) (hr.mono (by decide)) rfl g.cq0 g.bq7.kp g.cqX .nil pass0 (aqa (pv 0) aqb)))
   (aqH (aqI (aqm (iq5 (K:=K) rfl) (pv 1) (aqR (aqa aqr (aqa aqr (aqa aqr aqb)))) (by with_unfolding_all rfl))
    (aqg (aqv (i:=1) fqc.nd rfl (Or.inl rfl) (aqn (aqx (K:=K)) (pv 1) (aqo (aqf (K:=K) rfl) aqr (aqn aqJ (aqn aqA (pv 0) aqc) aqc) (fun _ _ => rfl))))) aqw)
   (aqg (aqp (pv 1))))),?_⟩
  have d1:Str.ofString ".." = ⟨sUp.toArray⟩:=by decide +kernel
  have d2:Str.ofString "." = ⟨sStay.toArray⟩:=by decide +kernel
  rw [d1,d2]
  walk_at "rd"
  refine ⟨c,rfl,fun l H1 hl hs s1 => ?_⟩
  refine ⟨fun σ H2 => Same H H2∧∃ l:List Nat,0 < l.length∧l.length ≤ 5∧(∀ c ∈ l,isSg c=true)∧isDot l=false∧σ=[some (.int c),some (tV l)],?_,?_⟩
  ·refine ⟨by decide,fun p H2 n2 s2 e2 => ?_⟩
   refine ⟨p,_,rfl,.inr (.of e2),rfl,rfl,_,rfl,?_⟩
   show if (if false then _ else inV (sV l) [sV [],sV sStay,sV sUp])=true then _ else _
   rw [if_neg (show ¬ false=true by decide),nqI]
   refine ite2 (fun hin => ?_) (fun hin => ?_)
   ·obtain ⟨d,hd,hda⟩:=jq1 (Str.ofString "ab1z").cps.toList (c / 30) 4 (by decide) (by decide +kernel)
    have hd':d ≠ 46∧isSg d=true:=by
     rw [show (Str.ofString "ab1z").cps.toList=[97,98,49,122] by decide +kernel] at hd
     simp only [List.mem_cons,List.not_mem_nil,or_false] at hd
     rcases hd with rfl | rfl | rfl | rfl <;> decide
    refine ⟨⟨by decide,by decide⟩,by decide,d,by decide +kernel,hda,?_⟩
    walk_at "rd"
    refine ⟨aqu (by omega),s1.trans s2,l ++ [d],by simp,by simp; omega,fun e he => ?_,pqO l d hd'.1,by simp⟩
    rcases List.mem_append.mp he with z | z
    ·exact hs e z
    ·rw [List.mem_singleton.mp z]; exact hd'.2
   ·simp only [Bool.or_eq_true,decide_eq_true_eq,not_or,Bool.not_eq_true] at hin
    exact ⟨s1.trans s2,l,List.length_pos_iff.mpr hin.1,by omega,hs,hin.2,rfl⟩
  rintro σ H2 ⟨s2,l,h1,h2,h3,h4,rfl⟩
  walk_at "rd"
  exact k l H2 h1 h2 h3 h4 s2
theorem oqE (g:G w K mg):FnOk P w K mg base CX0 4 g.mqw g.jqZ ["pattern","way"] (rqZ K):=by
 refine g.mqQ.ok lqZ (fun vs H Q E h => ?_) (fun cdv A outer s H vs Q E hr h => ?_)
 ·obtain ⟨cs,xs,p,q,pw,ps,cl,r,e,ss,rfl,_⟩:=h; rfl
 ·obtain ⟨cs,xs,p,q,pw,ps,cl,r,e,ss,rfl,hp,hq,hx,hn,hz,hw,hps,hsn,hsl,k⟩:=h
  refine ⟨_,(aqh (aqv (i:=2) lqZ.nd rfl (Or.inl rfl) (aqo (aqf (K:=K) rfl) (pv 1) (aqO (v:=oqh) rfl g.lqQ ⟨_,rfl⟩) (fun _ _ => rfl)))
   (aqH (aqv (i:=3) lqZ.nd rfl (Or.inl rfl) (aqj (pqo g) (hr.mono (by decide)) rfl g.lq9 g.kqe.kp g.mqi .nil pass0 (aqa (pv 0) (aqa (aqs (aqt (K:=K) rfl) rfl g.bqa PySem.boot_len (aqa (pv 2) aqb)) aqb))))
   (aqh (aqI (PW.pt (kq1 (aqm sqG (pv 3) gq7 (nomark _)) (kq1 (hqh (dqF (aqo (aqf (K:=K) rfl) (pv 1) (aqO (v:=pqC) rfl g.lq8 ⟨_,rfl⟩) (fun _ _ => rfl)))) (hqY (aqm lqd (aqo (aqf (K:=K) rfl) (pv 1) (aqO (v:=tqZ) rfl g.qq9 ⟨_,rfl⟩) (fun _ _ => rfl)) (aqo (aqf (K:=K) rfl) (pv 0) (aqO (v:=mqC) rfl g.jqG ⟨_,rfl⟩) (fun _ _ => rfl)) (nomark _))))))
    (aqg (aqp hq4)) aqw)
   (aqg (aqp (aqs (hqO (K:=K) rfl rfl) rfl g.qqy PyProof.Rows.boot_all (aqa (oq2 (K:=K) (fx:=[]) (fr:=[]) rfl rfl rfl (by decide +kernel) rfl (by decide +kernel) rfl rfl (by decide +kernel) rfl .nil rfl (qq2 (K:=K) rfl rfl g.sqp (aqa (pv 3) (aqa (pv 2) aqb))) (fun _ _ _ => mqr) (fun _ _ _ => (aqj (lqa g) (hr.mono (by decide)) rfl g.iqn g.fqI.kp g.hq7 .nil pass0 (aqa (pv 0) (aqa (pv 1) aqb))))) aqb))))))),?_⟩
  walk_at "rd"
  refine ⟨_,_,.inr hw,aqi (j:=1) rfl,?_⟩
  refine ⟨fun σ H1 => Same H H1∧((spreadM cs ss.length=none∧σ=[some (.ref p),some (.ref pw),some (.ref ps),some .non]) ∨ ∃ (ds:List Pc) (ys:List V) (r':Addr),spreadM cs ss.length=some ds∧SqT K H1 r' ys∧PcAll K H1 ds ys∧σ=[some (.ref p),some (.ref pw),some (.ref ps),some (.ref r')]),?_,?_⟩
  ·walk_at "rd"
   refine ⟨_,.inr hps,?_⟩
   rw [List.length_map]
   exact ⟨cs,xs,p,q,cl,ss.length,rfl,hp,hq,hx,hn,hsn,fun h => ⟨Same.refl _,.inl ⟨h,rfl⟩⟩,fun ds ys r' H1 h s1 h1 h2 => ⟨s1,.inr ⟨ds,ys,r',h,h1,h2,rfl⟩⟩⟩
  rintro σ H1 ⟨s1,⟨h0,rfl⟩ | ⟨ds,ys,r',h0,hr',hy,rfl⟩⟩
  ·walk_at "rd"
   have e:fitsP cs cl r ss e=false:=by unfold fitsP; rw [h0]
   rw [e] at k
   exact k H1 s1
  have ef:fitsP cs cl r ss e=(r && decide (e=cl) && (List.zipWith fitsM ds ss).all id):=by unfold fitsP; rw [h0]
  have hw1:=s1.tup hw
  have hp1:=s1.tup hp
  have hps1:=s1.tup hps
  walk_at "rd"
  refine ⟨_,_,.inr hw1,aqi (j:=0) rfl,r,rfl,?_⟩
  cases r with
  | false =>
   refine ite2 (fun _ => ?_) (fun z => absurd rfl z)
   rw [ef] at k
   exact k H1 s1
  | true =>
   refine ite2 (fun z => by cases z) (fun _ => ?_)
   refine ⟨_,_,.inr hw1,aqi (j:=2) rfl,_,_,.inr hp1,aqi (j:=1) rfl,?_⟩
   refine L2.nqT.mpr ⟨_,rfl,?_⟩
   by_cases hec:e=cl
   ·rw [decide_eq_true hec] at ef
    refine ite2 (fun z => by rw [decide_eq_true hec] at z; cases z) (fun _ => ?_)
    refine ⟨r',ps,ys,ss.map tV,⟨rfl,rfl⟩,hr',hps1,fun pc nc => ?_⟩
    have hyl:=hy.length
    have hdl:=jqm h0
    refine pqM (zs:=(List.zipWith fitsM ds ss).map V.bl) hr' hps1 (aqu (by rw [List.length_map,List.length_zipWith]; omega)) nc (by rw [List.length_map,List.length_zipWith,List.length_map,hyl]) (fun i x y z hx' hy' hz' H2 T s2 hT => ?_) (fun H2 s2 e2 => ?_)
    ·obtain ⟨c,p',hc,rfl,hcp⟩:=hy.get hx'
     obtain ⟨s,hs,rfl⟩:∃ s,ss[i]?=some s∧tV s=y:=by
      rw [List.getElem?_map] at hy'
      cases hs:ss[i]? with
      | none => rw [hs] at hy'; cases hy'
      | some s => rw [hs] at hy'; exact ⟨s,rfl,by simpa using hy'⟩
     have hz':V.bl (fitsM c s)=z:=by
      rw [List.getElem?_map,List.getElem?_zipWith,hc,hs] at hz'
      simpa using hz'
     subst hz'
     obtain ⟨z1,z2⟩:=hz c (nqz h0 c (List.mem_of_getElem? hc))
     walk_at "rd"
     exact ⟨c,s,p',rfl,s2.tup hcp,hsl s (List.mem_of_getElem? hs),z1,z2,hT⟩
    ·refine ⟨pc,_,rfl,.of e2,?_⟩
     rw [ef] at k
     exact k H2 (s1.trans s2)
   ·rw [decide_eq_false hec] at ef
    refine ite2 (fun _ => ?_) (fun z => by rw [decide_eq_false hec] at z; exact absurd rfl z)
    rw [ef] at k
    exact k H1 s1
theorem iqK (g:G w K mg):FnOk P w K mg base CX0 4 g.cqA g.cqb ["thing"] (iqG K):=by
 refine g.eqs.ok iqx (fun vs H Q E h => ?_) (fun cdv A outer s H vs Q E hr h => ?_)
 ·obtain ⟨d,v,rfl,_⟩:=h; rfl
 ·obtain ⟨d,v,rfl,hv,hs,k⟩:=h
  refine ⟨_,(aqg (aqp (dqe (aqj (dqE g) (hr.mono (by decide)) rfl g.cqs g.bqx.kp g.cqt .nil pass0 (aqa (pv 0) aqb)) (cqu (oq4 (aqj (hqL g) (hr.mono (by decide)) rfl g.hqA g.gql.kp g.hqt .nil pass0 (aqa (pv 0) aqb))))))),?_⟩
  walk_at "rd"
  refine ⟨d,v,rfl,hv,hs,fun H1 s1 => ⟨_,rfl,?_⟩⟩
  have k1:=k H1 s1
  cases hv with
  | str z =>
   have e:canD (.str z)=(ftx (.str z) && !isDot z.cps.toList):=rfl
   rw [e] at k1
   refine ite2 (fun hf => ?_) (fun hf => ?_)
   ·rw [hf,Bool.true_and] at k1
    exact ⟨z.cps.toList,rfl,_,rfl,k1⟩
   ·rw [Bool.eq_false_iff.mpr hf,Bool.false_and] at k1
    exact k1
  | _ => exact ite2 (fun z => by cases z) (fun _ => k1)
theorem kqk (g:G w K mg):FnOk P w K mg base CX0 4 g.dqp g.cqC ["entries"] (kqi K):=by
 refine g.eqX.ok cqL (fun vs H Q E h => ?_) (fun cdv A outer s H vs Q E hr h => ?_)
 ·obtain ⟨l,b,L,ws,rfl,_⟩:=h; rfl
 ·obtain ⟨l,b,L,ws,rfl,hl,hT,hok,hL,k⟩:=h
  refine ⟨_,(aqh (aqv (i:=1) cqL.nd rfl (Or.inl rfl) (aqo (aqf (K:=K) rfl) (pv 0) aqc (fun _ _ => rfl)))
   (aqh (cqv PassesOwn.never rfl (dq2 (K:=K) rfl (cqd (fqW (K:=K) rfl) (pv 0) (bqD aqc) cqW)) (aqE (i:=2) cqL.nd rfl (Or.inl rfl))
   (aqg (aqI (dqF (aqj (jqJ g) (hr.mono (by decide)) rfl g.gq0 g.eq8.kp g.hqi .nil pass0 (aqa (aqo (aqf (K:=K) rfl) (pv 2) aqc (fun _ _ => rfl)) (aqa (aqo (aqf (K:=K) rfl) (pv 1) aqc (fun _ _ => rfl)) aqb))))
    (aqg (aqv (i:=1) cqL.nd rfl (Or.inl rfl) (pv 2))) aqw)))
   (aqg (aqp (pv 1))))),?_⟩
  walk_at "rd"
  have hwl:=hT.length
  rw [List.length_cons] at hwl
  obtain ⟨v0,hv0⟩:∃ v,ws[0]?=some v:=⟨_,List.getElem?_eq_getElem (by omega)⟩
  obtain ⟨r0,hr0,hrw⟩:=hT.get hv0
  cases hr0
  refine ⟨_,_,.inl (.of hl),aqi (j:=0) hv0,_,.of hl,fun p1 H1 n1 s1 hp1 => ⟨⟨_,.of hp1⟩,?_⟩⟩
  rw [show (1:Int)=((1:Nat):Int) from rfl,hqB] at hp1
  have hT1:TbV H1 L (ws.drop 1):=(hT.drop 1).mono s1.toT
  have hokm:∀ n:Nat,PcsOk (mostM mrR b (L.take n)).2.1:=fun n => hok _ (by
   rcases List.mem_cons.mp (jqO (mr:=mrR) (L.take n) b) with h | h
   ·rw [h]; exact List.mem_cons_self ..
   ·exact List.mem_cons_of_mem _ (List.mem_of_mem_take h))
  refine gqw (xs:=ws.drop 1) (fun i σ H' => Same H1 H'∧∃ (v:V) (v2:Option V),σ=[some (.ref l),some v,v2]∧RwAt H' (mostM mrR b (L.take i)) v) ⟨Same.refl _,v0,none,rfl,hrw.mono s1.toT⟩ (fun i σ H' _ h => .of (h.1 _ _ hp1)) ?_ ?_
  ·rintro i x σ H2 hxi ⟨s2,v,v2,rfl,hv⟩
   obtain ⟨r,hr,a1,p',rfl,ha1,q',ys,hp',hq',hy⟩:=hT1.get hxi
   have hi:i < L.length:=(List.getElem?_eq_some_iff.mp hr).1
   have et:L.take (i + 1)=L.take i ++ [r]:=by rw [List.take_add_one,hr]; rfl
   obtain ⟨a2,p,rfl,ha2,q,xs,hp,hq,hx⟩:=id hv
   have or:=hok r (List.mem_cons_of_mem _ (List.mem_of_getElem? hr))
   have ob:=hokm i
   walk_at "rd"
   refine ⟨_,_,.inr (.of (s2 _ _ ha1)),aqi (j:=1) rfl,_,_,.inr (.of ha2),aqi (j:=1) rfl,?_⟩
   refine ⟨r.2.1,(mostM mrR b (L.take i)).2.1,ys,xs,p',q',p,q,_,_,rfl,.of (s2 _ _ hp'),.of (s2 _ _ hq'),(hy.mono s2.toT).all,.of hp,.of hq,hx.all,or.1,ob.1,fun c hc => (or.2 c hc).1.tx,fun c hc => (ob.2 c hc).1.tx,fun H3 s3 => ⟨_,rfl,?_⟩⟩
   have em:mostM mrR b (L.take (i + 1))=if moreM r.2.1 (mostM mrR b (L.take i)).2.1=true then r else mostM mrR b (L.take i):=by rw [et,kqF]; rfl
   refine ite2 (fun hm => ?_) (fun hm => ?_)
   ·refine ⟨s2.trans s3,_,_,⟨rfl,rfl⟩,?_⟩
    rw [em,if_pos hm]
    exact ⟨a1,p',rfl,(s2.trans s3) _ _ ha1,q',ys,(s2.trans s3) _ _ hp',(s2.trans s3) _ _ hq',hy.mono (s2.trans s3).toT⟩
   ·refine ⟨s2.trans s3,_,_,⟨rfl,rfl⟩,?_⟩
    rw [em,if_neg hm]
    exact hv.mono s3.toT
  ·rintro σ H2 ⟨s2,v,v2,rfl,hv⟩
   walk_at "rd"
   rw [List.length_drop,show ws.length - 1=L.length by omega,List.take_length] at hv
   exact k v H2 (s1.trans s2) hv
theorem jqI (g:G w K mg):FnOk P w K mg base CX0 4 g.dqh g.cqO ["_law_cell","_law_name"] (jqv K):=by
 refine g.fqa.ok cqJ (fun vs H Q E h => ?_) (fun cdv A outer s H vs Q E hr h => ?_)
 ·obtain ⟨c,n,rfl,_⟩:=h; rfl
 ·obtain ⟨c,n,rfl,k⟩:=h
  refine ⟨_,(aqh (aqI (aqm lqz (aqn aqJ (pv 0) aqc) aqc (nomark _))
    (aqg (aqp (aqR (aqa aqr (aqa (aqj (eq4 g) (hr.mono (by decide)) rfl g.eqg g.cq6.kp g.eqo .nil pass0 (aqa (aqn aqA (pv 0) aqc) aqb)) aqb))))) aqw)
   (aqh (aqI (aqm lqz (aqn aqJ (pv 0) aqc) aqc (nomark _))
    (aqh (aqv (i:=2) cqJ.nd rfl (Or.inl rfl) (aqj (dqt g) (hr.mono (by decide)) rfl g.cq0 g.bq7.kp g.cqX .nil pass0 (aqa (aqn aqA (pv 0) aqc) aqb)))
   (aqh (aqv (i:=3) cqJ.nd rfl (Or.inl rfl) (aqj (dqt g) (hr.mono (by decide)) rfl g.cq0 g.bq7.kp g.cqX .nil pass0 (aqa (aqn aqA (pv 0) aqc) aqb)))
   (aqH (aqI (aqm aqT (aqn (aqx (K:=K)) (pv 2) (pv 3)) aqr (nomark _))
    (aqg (aqv (i:=2) cqJ.nd rfl (Or.inl rfl) (aqo (aqf (K:=K) rfl) aqr (aqn aqJ (aqn aqA (pv 0) aqc) aqc) (fun _ _ => rfl)))) aqw)
   (aqg (aqp (aqR (aqa aqr (aqa (pv 2) (aqa (pv 1) (aqa (pv 3) aqb)))))))))) aqw)
   (aqg (aqp (aqR (aqa (aqo (aqf (K:=K) rfl) (aqC (aqa aqr (aqa aqr (aqa aqr (aqa aqr aqb))))) (aqn mqq (aqn aqJ (pv 0) aqc) aqc) (fun _ _ => rfl)) (aqa (pv 1) aqb))))))),?_⟩
  walk_at "rd"
  have c0:=Int.emod_nonneg c (show (8:Int) ≠ 0 by decide)
  have c1:=Int.emod_lt_of_pos c (show (0:Int) < 8 by decide)
  refine ⟨by decide,ite2 (fun _ => ⟨⟨by decide,by decide⟩,?_⟩) (fun h2 => ⟨by decide,ite2 (fun _ => ⟨⟨by decide,by decide⟩,?_⟩) (fun h4 => ?_)⟩)⟩
  ·exact ⟨_,rfl,fun l H1 h1 h2 h3 h4 s1 => ⟨by decide,fun p H2 n2 s2 e2 => k (.step l) p H2 ⟨h1,by omega,h3,h4⟩ rfl (fun z => by cases z) (s1.trans s2) e2⟩⟩
  ·refine ⟨_,rfl,fun hd H1 l1 h1 s1 => ⟨⟨by decide,by decide⟩,_,rfl,fun tl H2 l2 h2 s2 => ?_⟩⟩
   refine ⟨fun σ H3 => Same H H3∧∃ hd:List Nat,hd.length ≤ 4∧(∀ c ∈ hd,isSg c=true)∧hd ++ tl ≠ []∧σ=[some (.int c),some (tV n),some (tV hd),some (tV tl)],?_,?_⟩
   ·walk_at "rd"
    refine ⟨aqu (by omega),ite2 (fun h0 => ?_) (fun h0 => ⟨s1.trans s2,hd,l1,h1,fun z => h0 (by rw [z]),rfl⟩)⟩
    obtain ⟨d,hdm,hda⟩:=jq1 (Str.ofString "ab1.").cps.toList (c / 16) 4 (by decide) (by decide +kernel)
    have hd':isSg d=true:=by
     rw [show (Str.ofString "ab1.").cps.toList=[97,98,49,46] by decide +kernel] at hdm
     simp only [List.mem_cons,List.not_mem_nil,or_false] at hdm
     rcases hdm with rfl | rfl | rfl | rfl <;> decide
    exact ⟨⟨by decide,by decide⟩,by decide,d,by decide +kernel,hda,s1.trans s2,[d],by simp,fun e he => by rw [List.mem_singleton.mp he]; exact hd',by simp,rfl⟩
   rintro σ H3 ⟨s3,hd,l1,h1,hne,rfl⟩
   walk_at "rd"
   exact ⟨by decide,fun p H4 n4 s4 e4 => k (.part hd n tl) p H4 ⟨by omega,by omega,h1,h2,hne⟩ rfl (fun _ => rfl) (s3.trans s4) e4⟩
  ·refine ⟨by decide,fun p H1 n1 s1 e1 => ⟨by decide,?_⟩⟩
   have h:c % 8 - 4=0 ∨ c % 8 - 4=1 ∨ c % 8 - 4=2 ∨ c % 8 - 4=3:=by omega
   rcases h with h | h | h | h <;> rw [h]
   ·exact ⟨_,_,.inl (.of e1),aqi (j:=0) rfl,by decide,fun p2 H2 n2 s2 e2 => k (.num n) p2 H2 trivial rfl (fun _ => rfl) (s1.trans s2) e2⟩
   ·exact ⟨_,_,.inl (.of e1),aqi (j:=1) rfl,by decide,fun p2 H2 n2 s2 e2 => k (.word n) p2 H2 trivial rfl (fun _ => rfl) (s1.trans s2) e2⟩
   ·exact ⟨_,_,.inl (.of e1),aqi (j:=2) rfl,by decide,fun p2 H2 n2 s2 e2 => k (.gap n) p2 H2 trivial rfl (fun _ => rfl) (s1.trans s2) e2⟩
   ·exact ⟨_,_,.inl (.of e1),aqi (j:=3) rfl,by decide,fun p2 H2 n2 s2 e2 => k (.gap n) p2 H2 trivial rfl (fun _ => rfl) (s1.trans s2) e2⟩
theorem jqX (g:G w K mg):FnOk P w K mg base CX0 4 g.dqc g.cqz ["_law_piece_here","_law_cell"] (jqt K):=by
 refine g.eqM.ok eqr (fun vs H Q E h => ?_) (fun cdv A outer s H vs Q E hr h => ?_)
 ·obtain ⟨c,p,i,rfl,_⟩:=h; rfl
 ·obtain ⟨c,p,i,rfl,hp,hok,hst,k⟩:=h
  refine ⟨_,(aqh (aqI (aqm aqT (aqo (aqf (K:=K) rfl) (pv 0) aqc (fun _ _ => rfl)) aqr (nomark _))
    (aqh (aqv (i:=2) eqr.nd rfl (Or.inl rfl) (aqj (dqt g) (hr.mono (by decide)) rfl g.cq0 g.bq7.kp g.cqX .nil pass0 (aqa (aqn aqA (pv 1) aqc) aqb)))
   (aqh (aqI (PW.pt (kq1 (aqm aqT (pv 2) aqr (nomark _)) (hqY (aqm (iq5 (K:=K) rfl) (aqn (aqx (K:=K)) (aqn (aqx (K:=K)) (aqo (aqf (K:=K) rfl) (pv 0) aqc (fun _ _ => rfl)) (pv 2)) (aqo (aqf (K:=K) rfl) (pv 0) aqc (fun _ _ => rfl))) (aqR (aqa aqr (aqa aqr aqb))) (by with_unfolding_all rfl)))))
    (aqg (aqv (i:=2) eqr.nd rfl (Or.inl rfl) (aqn (aqx (K:=K)) (pv 2) aqr))) aqw)
   (aqg (aqp (pv 2))))) aqw)
   (aqh (aqI (aqm aqT (aqo (aqf (K:=K) rfl) (pv 0) aqc (fun _ _ => rfl)) aqr (nomark _))
    (aqg (aqp (aqn aqJ (aqn aqA (pv 1) aqc) (aqo (aqf (K:=K) rfl) (aqC (aqa aqc (aqa aqc (aqa (aqn pqb aqc aqc) (aqa (aqn pqb aqc aqc) aqb))))) (aqn aqJ (pv 1) aqc) (fun _ _ => rfl))))) aqw)
   (aqh (aqI (aqm aqT (aqo (aqf (K:=K) rfl) (pv 0) aqc (fun _ _ => rfl)) aqr (nomark _))
    (aqg (aqp (aqn eqt (aqo (aqf (K:=K) rfl) aqr (aqn aqJ (aqn aqA (pv 1) aqc) aqc) (fun _ _ => rfl)) (aqn (aqx (K:=K)) aqc (aqn aqJ (aqn aqA (pv 1) aqc) aqc))))) aqw)
   (aqh (aqI (aqm aqT (aqo (aqf (K:=K) rfl) (pv 0) aqc (fun _ _ => rfl)) aqr (nomark _))
    (aqg (aqp (hqJ (fx:=["_law_cell"]) (fr:=[1]) rfl rfl (by decide +kernel) rfl (by decide +kernel) rfl (by decide +kernel) rfl (.cons rfl rfl rfl rfl .nil) rfl (cql rfl g.dq6 (aqa (aqn (aqx (K:=K)) aqc (aqn aqJ (aqn aqA (pv 1) aqc) aqc)) aqb)) (fun _ _ _ => mqr) (fun _ _ _ => (aqj (eq4 g) (hr.mono (by decide)) rfl g.eqg g.cq6.kp g.eqo .nil pass0 (aqa (aqn aqA (pv 1) (aqn (aqx (K:=K)) aqc (aqn eqt aqc (pv 0)))) aqb)))))) aqw)
   (aqg (aqp (aqj (eq4 g) (hr.mono (by decide)) rfl g.eqg g.cq6.kp g.eqo .nil pass0 (aqa (aqn aqA (pv 1) aqc) aqb)))))))),?_⟩
  have d1:Str.ofString ".." = ⟨sUp.toArray⟩:=by decide +kernel
  have d2:Str.ofString "." = ⟨sStay.toArray⟩:=by decide +kernel
  have eA:Str.ofString "a" = ⟨[97].toArray⟩:=by decide +kernel
  rw [d1,d2,eA]
  walk_at "rd"
  refine ⟨_,_,.inr (.of hp),c.at0,aqy.mpr ⟨_,rfl,?_⟩⟩
  rw [cqY]
  refine ite2 (fun h2 => ⟨⟨by decide,by decide⟩,i / 8,rfl,fun l H1 hl hlg s1 => ?_⟩) (fun h2 => ⟨_,_,.inr (.of hp),c.at0,aqy.mpr ⟨_,rfl,?_⟩⟩)
  ·cases c with
   | part a n t =>
    obtain ⟨o1,o2,o3,o4,o5⟩:=hok
    have hv:=s1 _ _ hp
    have more:∀ {H2:Hp},Same H H2->rAddS K (tV l) (tV [97]) H2 Q:=fun {H2} s2 => by
     refine cqq.mpr ⟨aqu (by rw [bqr,bqr]; simp only [List.length_cons,List.length_nil]; omega),?_⟩
     rw [dqr]
     refine k (.txt (l ++ [97])) _ H2 ⟨_,rfl,by simp,fun z hz => ?_,by rw [List.length_append,List.length_singleton]; omega,nqO (c:=97) (by simp) (by decide)⟩ (by show (l ++ [97]).length ≤ 90; rw [List.length_append,List.length_singleton]; omega) s2 rfl (fun q z => by cases z)
     rcases List.mem_append.mp hz with y | y
     ·exact hlg z y
     ·rw [List.mem_singleton.mp y]; decide
    have hnil:decide ((⟨l.toArray⟩:Str)=⟨#[]⟩)=decide (l=[]):=by rw [decide_eq_decide]; exact uqm
    refine aqy.mpr ⟨_,rfl,?_⟩
    rw [hnil]
    refine ite2 (fun _ => more s1) (fun hl0 => ⟨_,_,.inr (.of hv),aqi (j:=1) rfl,cqq.mpr ⟨aqu (by rw [bqr,bqr]; omega),_,_,.inr (.of hv),aqi (j:=3) rfl,?_⟩⟩)
    rw [dqr]
    refine cqq.mpr ⟨aqu (by rw [bqr,bqr,List.length_append]; omega),?_⟩
    rw [dqr]
    refine ⟨by decide,fun p2 H2 n2 s2 e2 => ⟨p2,_,rfl,.inr (.of e2),rfl,rfl,_,rfl,?_⟩⟩
    show if (if false then _ else inV (sV (a ++ l ++ t)) [sV sStay,sV sUp])=true then _ else _
    rw [if_neg (show ¬ false=true by decide),oqf]
    refine ite2 (fun _ => more (s1.trans s2)) (fun hd => ?_)
    have hne:l ≠ []:=fun z => hl0 (decide_eq_true z)
    exact k (.txt l) _ H2 ⟨l,rfl,hne,hlg,by omega,(Bool.not_eq_true _).mp hd⟩ (by show l.length ≤ 90; omega) (s1.trans s2) rfl (fun q z => by cases z)
   | _ => cases h2
  rw [fq0]
  refine ite2 (fun h3 => ?_) (fun h3 => ⟨_,_,.inr (.of hp),c.at0,aqy.mpr ⟨_,rfl,?_⟩⟩)
  ·refine ⟨⟨by decide,by decide⟩,⟨by decide,by decide,by decide⟩,⟨by decide,by decide,by decide⟩,by decide,fun p2 H2 n2 s2 hp2 => ⟨by decide,?_⟩⟩
   obtain ⟨j,hj,ej⟩:∃ j:Nat,j < 4∧i % 4=(j:Int):=⟨(i % 4).toNat,by omega,by omega⟩
   obtain ⟨m,hm,hm0,hm1⟩:∃ m:Int,[V.int 10,V.int 100,V.int (10 ^ Int.toNat 9),V.int (10 ^ Int.toNat 60)][j]?=some (.int m)∧0 < m∧m ≤ 10 ^ 60:=by
    match j,hj with
    | 0,_ => exact ⟨_,rfl,by decide,by decide +kernel⟩
    | 1,_ => exact ⟨_,rfl,by decide,by decide +kernel⟩
    | 2,_ => exact ⟨_,rfl,by decide,by decide +kernel⟩
    | 3,_ => exact ⟨_,rfl,by decide +kernel,by decide +kernel⟩
   have m1:=Int.emod_nonneg (i / 8) (show m ≠ 0 by omega)
   have m2:=Int.emod_lt_of_pos (i / 8) hm0
   refine ⟨_,_,.inl (.of hp2),by rw [ej]; exact aqi hm,rd_I.mpr ⟨hm0,?_⟩⟩
   cases c with
   | num nm => exact k (.int (i / 8 % m)) _ H2 ⟨_,rfl,m1,by omega⟩ trivial s2 rfl (fun q z => by cases z)
   | _ => cases h3
  rw [jqz]
  refine ite2 (fun h4 => ?_) (fun h4 => ⟨_,_,.inr (.of hp),c.at0,aqy.mpr ⟨_,rfl,?_⟩⟩)
  ·obtain ⟨d,hd,hda⟩:=jq1 (Str.ofString "abcxyz").cps.toList (i / 8) 6 (by decide) (by decide +kernel)
   rw [show (Str.ofString "abcxyz").cps.toList=[97,98,99,120,121,122] by decide +kernel] at hd
   have hd':isSma d=true:=by
    simp only [List.mem_cons,List.not_mem_nil,or_false] at hd
    rcases hd with rfl | rfl | rfl | rfl | rfl | rfl <;> decide
   obtain ⟨m,hm,hm1,hm2⟩:∃ m:Nat,1 + i / 48 % 60=(m:Int)∧1 ≤ m∧m ≤ 60:=⟨(1 + i / 48 % 60).toNat,by omega,by omega,by omega⟩
   rw [hm]
   refine ⟨⟨by decide,by decide⟩,by decide,d,by decide +kernel,hda,⟨by decide,by decide⟩,by decide,pql d m hm2,?_⟩
   rw [qqg d m]
   cases c with
   | word nm => exact k (.txt (List.replicate m d)) _ H ⟨_,rfl,List.all_eq_true.mpr fun x hx => by rw [List.eq_of_mem_replicate hx]; exact hd',by rw [List.length_replicate]; omega,by rw [List.length_replicate]; omega⟩ (by show (List.replicate m d).length ≤ 90; rw [List.length_replicate]; omega) (Same.refl _) rfl (fun q z => by cases z)
   | _ => cases h4
  rw [gqz]
  refine ite2 (fun h5 => ?_) (fun h5 => ⟨⟨by decide,by decide⟩,i / 8,rfl,fun s H2 a1 a2 a3 a4 s2 => ?_⟩)
  ·obtain ⟨m,hm,hm1,hm2⟩:∃ m:Nat,1 + i / 3 % 5=(m:Int)∧1 ≤ m∧m ≤ 5:=⟨(1 + i / 3 % 5).toNat,by omega,by omega,by omega⟩
   rw [hm,Int.toNat_natCast]
   refine ⟨⟨by decide,by decide⟩,by decide,by omega,by omega,fun l nl => ?_⟩
   refine lqD (fun j ys H' => Same H H'∧∃ ss:List (List Nat),ys=ss.map tV∧ss.length=j∧∀ s ∈ ss,SgT s∧s.length ≤ 90∧isDot s=false) (aqu (by omega)) ⟨aqK nl,[],rfl,rfl,(fun s hs => by cases hs)⟩ (fun j ys H2 T hj hJ hl2 hT => ?_) (fun ys H2 hJ hl2 => ?_)
   ·obtain ⟨s2,ss,rfl,hsl,hss⟩:=hJ
    walk_at "rd"
    refine ⟨.inl ⟨by decide,by decide⟩,⟨by omega,by omega⟩,_,rfl,fun s H3 a1 a2 a3 a4 s3 => hT (tV s) H3 (s3 _ _ hl2) ⟨jqB (s2.trans s3) nl,ss ++ [s],by rw [List.map_append]; rfl,by rw [List.length_append,hsl]; rfl,fun z hz => ?_⟩⟩
    rcases List.mem_append.mp hz with y | y
    ·exact hss z y
    ·rw [List.mem_singleton.mp y]; exact ⟨⟨List.length_pos_iff.mp a1,a3⟩,by omega,a4⟩
   ·obtain ⟨s2,ss,rfl,hsl,hss⟩:=hJ
    cases c with
    | rest nm => exact k (.lst ss) _ H2 ⟨ss,rfl,List.length_pos_iff.mp (by omega),by omega,fun s hs => ⟨(hss s hs).1,by have:=(hss s hs).2.1; omega,(hss s hs).2.2⟩⟩ ⟨by omega,fun s hs => (hss s hs).2.1⟩ s2 ⟨l,rfl,hl2⟩ (fun q z => by cases z; exact nl)
    | _ => cases h5
  ·cases c with
   | step w => cases hst
   | part a n t => exact absurd rfl h2
   | num n => exact absurd rfl h3
   | word n => exact absurd rfl h4
   | rest n => exact absurd rfl h5
   | gap n => exact k (.txt s) _ H2 ⟨s,rfl,⟨List.length_pos_iff.mp a1,a3⟩,by omega,a4⟩ (by show s.length ≤ 90; omega) s2 rfl (fun q z => by cases z)
theorem qqA (g:G w K mg):FnOk P w K mg base CX0 5 g.jqA g.hqv ["pattern","way"] (pqX K):=by
 refine g.lqJ.ok hqC (fun vs H Q E h => ?_) (fun cdv A outer s H vs Q E hr h => ?_)
 ·obtain ⟨cs,xs,p,q,pw,ps,cl,r,e,ss,rfl,_⟩:=h; rfl
 ·obtain ⟨cs,xs,p,q,pw,ps,cl,r,e,ss,rfl,hp,hq,hx,hn,hz,hw,hps,hsn,hsl,k0,k⟩:=h
  refine ⟨_,(aqh (aqI (hqh (dqF (aqj (oqE g) (hr.mono (by decide)) rfl g.pqq g.mqQ.kp g.oq1 .nil pass0 (aqa (pv 0) (aqa (pv 1) aqb)))))
    (aqg (aqp gq7)) aqw)
   (aqh (aqv (i:=2) hqC.nd rfl (Or.inl rfl) (aqC aqb))
   (aqh (cqv PassesOwn.never rfl (tqa (K:=K) rfl rfl g.dq3 (aqa (aqo (aqf (K:=K) rfl) (pv 0) (aqO (v:=cqM) rfl g.cqj ⟨_,rfl⟩) (fun _ _ => rfl)) aqb)) (eqP (n:=2) (K:=K) rfl rfl (aqS (aqE (i:=3) hqC.nd rfl (Or.inl rfl)) (aqS (aqE (i:=4) hqC.nd rfl (Or.inl rfl)) eqp)))
   (aqg (aqI (dqF (aqj (hq9 g) (hr.mono (by decide)) rfl g.hqu g.gqg.kp g.hqr .nil pass0 (aqa (pv 4) aqb)))
    (aqg (cq2 (dqW (K:=K) rfl PySem.F.plainAttrs_list PySem.F.slot_list_append PySem.F.type_list_append bqe (pv 2) (aqa (aqR (aqa (aqj (fqi g) (hr.mono (by decide)) rfl g.eq5 g.dqU.kp g.eq9 .nil pass0 (aqa (pv 4) aqb)) (aqa (aqj (iqO g) (hr.mono (by decide)) rfl g.fqZ g.eqe.kp g.fq5 .nil pass0 (aqa (pv 4) (aqa (cqd jqF (aqo (aqf (K:=K) rfl) (pv 1) (aqO (v:=oqh) rfl g.lqQ ⟨_,rfl⟩) (fun _ _ => rfl)) (bqD (pv 3)) cqW) aqb))) aqb))) aqb)))) aqw)))
   (aqg (aqp (pv 2)))))),?_⟩
  walk_at "rd"
  refine ⟨cs,xs,p,q,pw,ps,cl,r,e,ss,rfl,hp,hq,hx,hn,hz,hw,.of hps,hsn,hsl,fun H1 s1 => ⟨_,rfl,?_⟩⟩
  cases hf:fitsP cs cl r ss e with
  | false => exact ite2 (fun _ => k0 hf H1 s1) (fun z => absurd rfl z)
  | true =>
   refine ite2 (fun z => by cases z) (fun _ => ⟨by decide,fun l H2 n2 s2 e2 => ?_⟩)
   have s02:=s1.trans s2
   have hl:=hx.length
   refine ⟨_,_,.inr (s02.tup hp),aqi (j:=0) rfl,q,xs,rfl,.of (s02 _ _ hq),?_⟩
   have nl:H l=none:=by
    cases hh:H l with
    | none => rfl
    | some o => rw [s1 _ _ hh] at n2; cases n2
   refine nq8 (fun i σ H' => ∃ (ys:List V) (v3 v4:Option V),σ=[some (.ref p),some (.ref pw),some (.ref l),v3,v4]∧H' l=some (.lst ys)∧BndV H' l (boundM (cs.take i) ss) ys∧Same H H'∧FrB H H' ys) ⟨[],none,none,rfl,e2,.nil,s02,fun v hv => by cases hv⟩ (fun i σ H' _ h => by obtain ⟨_,_,_,_,_,_,hh,_⟩:=h; exact .of (hh _ _ hq)) ?_ ?_
   ·rintro i v σ H3 T hv ⟨ys,v3,v4,rfl,e3,hb,s3,hF⟩ hT
    obtain ⟨c,pc,hc,rfl,hpc⟩:=hx.get hv
    have st:Same H3 (upd H3 T (.tup [.int (i:Int),.ref pc])):=aqK hT
    have hpc':=(s3.trans st).tup hpc
    have et:=hqS cs ss i c hc
    obtain ⟨s,hs,hfs⟩:=jqr hf hc
    walk_at "rd"
    refine ⟨T,_,rfl,.of aqk,rfl,_,_,rfl,_,_,rfl,rfl,?_⟩
    walk_at "rd"
    refine ⟨c,pc,rfl,hpc',_,rfl,?_⟩
    have hbl:=hb.length
    have hbn:=iqT (cs.take i) ss
    rw [List.length_take] at hbn
    cases hcs:c.isStep with
    | true =>
     refine ite2 (fun z => by cases z) (fun _ => ?_)
     rw [hcs,if_pos rfl,List.append_nil] at et
     exact ⟨ys,_,_,⟨rfl,rfl⟩,st _ _ e3,by rw [et]; exact hb.mono st,s3.trans st,hF.mono st.toT⟩
    | false =>
     refine ite2 (fun _ => ?_) (fun z => absurd rfl z)
     rw [hcs,if_neg (by decide)] at et
     have sT:=s3.trans st
     have hsi:ss.drop i=s :: ss.drop (i + 1):=by
      have hi:=(List.getElem?_eq_some_iff.mp hs)
      rw [List.drop_eq_getElem_cons hi.1,hi.2]
     obtain ⟨z1,z2⟩:=hz c (List.mem_of_getElem? hc)
     refine ⟨⟨_,.of (st _ _ e3)⟩,c,pc,rfl,hpc',hcs,_,_,.inr (sT.tup hw),aqi (j:=1) rfl,ps,_,rfl,sT _ _ hps,fun p4 H4 s4 e4 => ?_⟩
     rw [hqB,<- List.map_drop,hsi] at e4
     refine ⟨c,s,ss.drop (i + 1),pc,p4,rfl,s4.tup hpc',e4,hfs,hsl s (List.mem_of_getElem? hs),z1,z2,by rw [List.length_drop]; omega,fun v H5 s5 hv5 hn5 => ⟨by decide,fun p6 H6 n6 s6 e6 => ?_⟩⟩
     have e36:=(st.trans (s4.trans (s5.trans s6))) _ _ e3
     have hvn:∀ q,v=.ref q->q ≠ l:=fun q z w => by
      have:=hn5 q z
      rw [w,s4 _ _ (st _ _ e3)] at this
      cases this
     refine ⟨_,e36,Nat.lt_of_le_of_lt (show ys.length ≤ 100 by omega) (by decide),ys ++ [.ref p6],_,_,⟨rfl,rfl⟩,by rw [aqk],?_,cqm nl (sT.trans (s4.trans (s5.trans s6))),((hF.mono (st.trans (s4.trans (s5.trans s6))).toT).snoc e6 fun q z => gqh (sT.trans s4) (hn5 q z)).mono (eqZ e36)⟩
     rw [et,hsi]
     exact ((hb.mono (st.trans (s4.trans (s5.trans s6)))).snoc e6 (hv5.mono s6) hvn).upd e36
   ·rintro σ H3 ⟨ys,v3,v4,rfl,e3,hb,s3,hF⟩
    rw [hl,List.take_length] at hb
    walk_at "rd"
    exact k hf l ys H3 nl hF s3 e3 hb
theorem lqw (g:G w K mg):FnOk P w K mg base CX0 5 g.fqv g.eqq ["gap","value"] (lq4 K):=by
 refine g.gqJ.ok lqH (fun vs H Q E h => ?_) (fun cdv A outer s H vs Q E hr h => ?_)
 ·obtain ⟨c,p,d,v,rfl,_⟩:=h; rfl
 ·obtain ⟨c,p,d,v,rfl,hp,hc,hh,ht,hv,hs,k⟩:=h
  refine ⟨_,(aqh (aqI (aqm aqT (aqo (aqf (K:=K) rfl) (pv 0) aqc (fun _ _ => rfl)) aqr (nomark _))
    (aqg (aqp (dqe (aqs dqJ rfl g.bqh aq0 (aqa (pv 1) (aqa (gqC (v:=.ty "list") rfl g.mqu lqA rfl) aqb))) (dqe (aqQ oq7 (aqs (aqt (K:=K) rfl) rfl g.bqa PySem.boot_len (aqa (pv 1) aqb)) aqc (nomark _)) (cqu (aqs (hqO (K:=K) rfl rfl) rfl g.qqy PyProof.Rows.boot_all (aqa (hqJ (fx:=[]) (fr:=[]) rfl rfl (by decide +kernel) rfl (by decide +kernel) rfl (by decide +kernel) rfl .nil rfl (dq2 (K:=K) rfl (pv 1)) (fun _ _ _ => mqr) (fun _ _ _ => (aqj (iqK g) (hr.mono (by decide)) rfl g.gqe g.eqs.kp g.fq7 .nil pass0 (aqa (pv 0) aqb)))) aqb))))))) aqw)
   (aqh (aqI (aqm aqT (aqo (aqf (K:=K) rfl) (pv 0) aqc (fun _ _ => rfl)) aqr (nomark _))
    (aqg (aqp (dqe (aqj (gqc g) (hr.mono (by decide)) rfl g.dqB g.bqY.kp g.dqO .nil pass0 (aqa (pv 1) aqb)) (cqu (mqG oqG lqz aqc (pv 1) (aqn pqb aqc aqc)))))) aqw)
   (aqh (aqI (aqm aqT (aqo (aqf (K:=K) rfl) (pv 0) aqc (fun _ _ => rfl)) aqr (nomark _))
    (aqg (aqp (dqe (aqs dqJ rfl g.bqh aq0 (aqa (pv 1) (aqa (gqC (v:=.ty "str") rfl g.oqI mqj rfl) aqb))) (cqu (aqj (iq2 g) (hr.mono (by decide)) rfl g.hqT g.gqf.kp g.iqs .nil pass0 (aqa (pv 1) aqb)))))) aqw)
   (aqg (aqp (dqe (aqj (dqE g) (hr.mono (by decide)) rfl g.cqs g.bqx.kp g.cqt .nil pass0 (aqa (pv 1) aqb)) (cqu (oq4 (aqj (hqL g) (hr.mono (by decide)) rfl g.hqA g.gql.kp g.hqt .nil pass0 (aqa (aqn (aqx (K:=K)) (aqn (aqx (K:=K)) (aqj (dqN g) (hr.mono (by decide)) rfl g.dqC g.cq4.kp g.dqL .nil pass0 (aqa (pv 0) aqb)) (pv 1)) (aqj (dqR g) (hr.mono (by decide)) rfl g.dqX g.cq1.kp g.dqM .nil pass0 (aqa (pv 0) aqb))) aqb)))))))))),?_⟩
  walk_at "rd"
  refine ⟨_,_,.inr hp,c.at0,aqy.mpr ⟨_,rfl,?_⟩⟩
  rw [gqz]
  refine ite2 (fun hrs => ?_) (fun hrs => ⟨_,_,.inr hp,c.at0,aqy.mpr ⟨_,rfl,?_⟩⟩)
  ·cases c with
   | rest n =>
    have k1:=k
    cases hv with
    | lst hl r =>
     rename_i a xs ds
     refine ⟨"list",hqx hl,?_⟩
     rw [if_pos (by decide)]
     have hlen:=r.length
     have hsm:ds.length ≤ 100000∧smallAll ds=true:=by simpa [smallD] using hs
     refine oqL.mpr ⟨xs,.inl (.of hl),qqx.mpr ⟨_,rfl,?_⟩⟩
     have e:isValD (.rest n) (.list ds)=(decide (0 < ds.length) && ds.all canD):=rfl
     rw [e] at k
     refine ite2 (fun h0 => ?_) (fun h0 => ?_)
     ·have h0:0 < ds.length:=by have:=of_decide_eq_true h0; omega
      rw [decide_eq_true h0,Bool.true_and] at k
      refine ⟨_,rfl,⟨_,.of hl⟩,fun p0 n0 => ?_⟩
      refine nqd (zs:=(ds.map canD).map V.bl) (.of hl) (aqu (by omega)) n0 (by rw [List.length_map,List.length_map,hlen]) (fun i x z hx hz H1 T s1 hT => ?_) (fun H1 s1 hp1 => ?_)
      ·obtain ⟨d,hd,hI⟩:=r.at i x hx
       rw [List.getElem?_map,List.getElem?_map,hd] at hz
       cases hz
       walk_at "rd"
       exact ⟨d,x,rfl,hI.mono s1,gqY hsm.2 (List.mem_of_getElem? hd),fun H2 s2 => hT H2 s2⟩
      ·refine lqP.mpr ⟨ds.map canD,.of hp1,?_⟩
       have:=k H1 s1
       rw [List.all_map]
       exact this
     ·have h0:¬ 0 < ds.length:=fun z => h0 (decide_eq_true (by omega))
      rw [decide_eq_false h0,Bool.false_and] at k
      exact k H (Same.refl _)
    | tup hl r =>
     refine ⟨"tuple",hqs hl,?_⟩
     rw [if_neg (by decide)]
     exact k H (Same.refl _)
    | non => exact ⟨"NoneType",rfl,ite2 (fun z => absurd z (by decide)) (fun _ => k H (Same.refl _))⟩
    | bl b => exact ⟨"bool",rfl,ite2 (fun z => absurd z (by decide)) (fun _ => k H (Same.refl _))⟩
    | int i => exact ⟨"int",rfl,ite2 (fun z => absurd z (by decide)) (fun _ => k H (Same.refl _))⟩
    | str x => exact ⟨"str",rfl,ite2 (fun z => absurd z (by decide)) (fun _ => k H (Same.refl _))⟩
   | _ => cases hrs
  rw [fq0]
  refine ite2 (fun hnm => ?_) (fun hnm => ⟨_,_,.inr hp,c.at0,aqy.mpr ⟨_,rfl,?_⟩⟩)
  ·cases c with
   | num n =>
    refine ⟨d,v,rfl,hv,_,rfl,?_⟩
    cases hv with
    | int i =>
     refine ite2 (fun _ => qqx.mpr ⟨_,rfl,?_⟩) (fun z => absurd rfl z)
     have e:isValD (.num n) (.int i)=decide (0 ≤ i∧i < 10 ^ 60):=rfl
     rw [e] at k
     have k1:=k H (Same.refl _)
     refine ite2 (fun h0 => ⟨⟨by decide,by decide,by decide⟩,qqx.mpr ?_⟩) (fun h0 => ?_)
     ·have h0:=of_decide_eq_true h0
      rw [show decide (0 ≤ i∧i < 10 ^ 60)=decide (i < 10 ^ Int.toNat 60) by rw [decide_eq_decide]; exact ⟨fun z => z.2,fun z => ⟨h0,z⟩⟩] at k1
      exact k1
     ·rw [decide_eq_false (fun z => h0 (decide_eq_true z.1))] at k1
      exact k1
    | _ => exact ite2 (fun z => by cases z) (fun _ => k H (Same.refl _))
   | _ => cases hnm
  rw [jqz]
  refine ite2 (fun hw => ?_) (fun hw => ?_)
  ·cases c with
   | word n =>
    cases hv with
    | str x =>
     refine ⟨"str",rfl,ite2 (fun _ => ?_) (fun z => absurd (by decide) z)⟩
     have hl:=eqQ hs
     exact ⟨x.cps.toList,rfl,hl,fun H1 s1 => k H1 s1⟩
    | lst hl r => exact ⟨"list",hqx hl,ite2 (fun z => absurd z (by decide)) (fun _ => k H (Same.refl _))⟩
    | tup hl r => exact ⟨"tuple",hqs hl,ite2 (fun z => absurd z (by decide)) (fun _ => k H (Same.refl _))⟩
    | non => exact ⟨"NoneType",rfl,ite2 (fun z => absurd z (by decide)) (fun _ => k H (Same.refl _))⟩
    | bl b => exact ⟨"bool",rfl,ite2 (fun z => absurd z (by decide)) (fun _ => k H (Same.refl _))⟩
    | int i => exact ⟨"int",rfl,ite2 (fun z => absurd z (by decide)) (fun _ => k H (Same.refl _))⟩
   | _ => cases hw
  ·have e:isValD c d=(ftx d && !isDot (c.head ++ txD d ++ c.tail)):=by
    cases c with
    | part a b e => rfl
    | gap n => show (ftx d && !isDot (txD d))=(ftx d && !isDot ([] ++ txD d ++ [])); rw [List.nil_append,List.append_nil]
    | step s => cases hc
    | num n => exact absurd rfl hnm
    | word n => exact absurd rfl hw
    | rest n => exact absurd rfl hrs
   rw [e] at k
   refine ⟨d,v,rfl,hv,hs,fun H1 s1 => ⟨_,rfl,?_⟩⟩
   refine ite2 (fun hf => ?_) (fun hf => ?_)
   ·cases hv with
    | str x =>
     obtain ⟨⟨l⟩⟩:=x
     have hl:l.length ≤ 100000:=eqQ hs
     rw [hf,Bool.true_and] at k
     have b3:300000 ≤ sizeLine:=by decide
     refine ⟨c,p,rfl,s1.tup hp,cqq.mpr ⟨Nat.le_trans (show c.head.length + l.length ≤ 300000 by omega) b3,c,p,rfl,s1.tup hp,cqq.mpr ⟨?_,?_⟩⟩⟩
     ·show ((⟨c.head.toArray⟩:Str) ++ ⟨l.toArray⟩).length + c.tail.length ≤ _
      rw [dqr,bqr,List.length_append]
      omega
     ·show kq2 [V.str ((⟨c.head.toArray⟩:Str) ++ ⟨l.toArray⟩ ++ ⟨c.tail.toArray⟩)] H1 _ E0
      rw [dqr,dqr]
      exact ⟨_,rfl,_,rfl,k H1 s1⟩
    | _ => cases hf
   ·rw [Bool.eq_false_iff.mpr hf,Bool.false_and] at k
    exact k H1 s1
theorem jqY (g:G w K mg):FnOk P w K mg base CX0 5 g.dqg g.cqI ["_law_cell","_law_names_here"] (jqT K):=by
 refine g.eq3.ok cqB (fun vs H Q E h => ?_) (fun cdv A outer s H vs Q E hr h => ?_)
 ·obtain ⟨c,pn,ns,rfl,_⟩:=h; rfl
 ·obtain ⟨c,pn,ns,rfl,hpn,hn5,hn,hns,k⟩:=h
  refine ⟨_,(aqh (aqv (i:=2) cqB.nd rfl (Or.inl rfl) (aqn aqJ (pv 0) aqc))
   (aqh (aqv (i:=3) cqB.nd rfl (Or.inl rfl) (aqC aqb))
   (aqH (cqv PassesOwn.never rfl (cql rfl g.dq6 (aqa (pv 2) aqb)) (aqE (i:=4) cqB.nd rfl (Or.inl rfl))
   (aqg (cq2 (dqW (K:=K) rfl PySem.F.plainAttrs_list PySem.F.slot_list_append PySem.F.type_list_append bqe (pv 3) (aqa (aqj (jqI g) (hr.mono (by decide)) rfl g.gq1 g.fqa.kp g.hqc .nil pass0 (aqa (aqn aqA (pv 0) (aqn (aqx (K:=K)) aqc (aqn eqt (aqn eqt aqc (pv 4)) (pv 4)))) (aqa (aqo (aqf (K:=K) rfl) (pv 1) (pv 4) (fun _ _ => rfl)) aqb))) aqb)))))
   (aqH (aqI (PW.pt (hqg (aqm aqT (aqn aqJ (aqn aqA (pv 0) aqc) aqc) aqc (nomark _)) (eqE (aqm (gqk hr.units) (pv 3) (aqC aqb) (nomark _)))))
    (aqg (mqH (aqR (aqa aqr (aqa (aqo (aqf (K:=K) rfl) (pv 1) (aqn mqq (pv 2) aqc) (fun _ _ => rfl)) aqb))) (qq6 (pv 3) (nqv jqd aqc) mqJ))) aqw)
   (aqg (aqp (aqR (aqa (bqT (fqK (K:=K) rfl) rfl g.iqt hqG (aqa (pv 3) aqb)) (aqa (pq1 (aqQ (iqX hr.units) (pv 3) (aqC aqb) (nomark _)) (cqu (aqQ aqT (aqn aqJ (aqn aqA (pv 0) aqc) aqc) aqc (nomark _)))) aqb))))))))),?_⟩
  walk_at "rd"
  obtain ⟨m,hm,hm5⟩:∃ m:Nat,c % 6=(m:Int)∧m ≤ 5:=⟨(c % 6).toNat,by omega,by omega⟩
  rw [hm]
  refine ⟨by decide,by decide,fun p1 H1 n1 s1 hp1 => ?_⟩
  refine ⟨fun σ H' => Same H H'∧∃ (v5:Option V) (ps:List Pc) (xs:List V),σ=[some (.int c),some (.ref pn),some (.int (m:Int)),some (.ref p1),v5]∧PcT H' ps xs∧H' p1=some (.lst xs)∧ps.length=m∧(∀ x ∈ ps,(PcOk x∧PcSg x)∧x.isRest=false)∧NmP ns ps,⟨by omega,by omega,?_⟩,?_⟩
  ·rw [Int.toNat_natCast]
   refine dqQ (fun i σ H' => Same H H'∧∃ (v5:Option V) (ps:List Pc) (xs:List V),σ=[some (.int c),some (.ref pn),some (.int (m:Int)),some (.ref p1),v5]∧PcT H' ps xs∧H' p1=some (.lst xs)∧ps.length=i∧(∀ x ∈ ps,(PcOk x∧PcSg x)∧x.isRest=false)∧NmP ns ps) ⟨s1,none,[],[],rfl,.nil,hp1,rfl,(fun x hx => by cases hx),(fun i c h => by simp at h)⟩ ?_ ?_
   ·rintro i σ H2 hi ⟨s2,v5,ps,xs,rfl,hP,hl2,hpl,hok,hnp⟩
    have hxl:=hP.length
    walk_at "rd"
    have hi5:i=0 ∨ i=1 ∨ i=2 ∨ i=3 ∨ i=4:=by omega
    have hb:0 < 6 + 31 * (0 + (i:Int)) * (0 + (i:Int))∧6 + 31 * (0 + (i:Int)) * (0 + (i:Int)) < 1073741824:=by
     rcases hi5 with rfl | rfl | rfl | rfl | rfl <;> decide
    obtain ⟨nm,hnm⟩:∃ z,ns[i]?=some z:=⟨_,List.getElem?_eq_getElem (by omega)⟩
    have hnmg:=hns nm (List.mem_of_getElem? hnm)
    refine ⟨⟨_,.of hl2⟩,.inl ⟨by decide,by decide⟩,.inr ⟨by omega,by omega⟩,hb,_,_,.inl (.of (s2 _ _ hpn)),by rw [Int.zero_add]; exact aqi (by rw [List.getElem?_map,hnm]; rfl),_,nm,rfl,fun pcx b H3 ok1 ok2 ok3 s3 hbx => ?_⟩
    have st:=eqZ (ys:=xs ++ [.ref b]) (s3 _ _ hl2)
    have sgx:PcSg pcx:=lqC ok1 fun x hx => by
     cases hst:pcx.isStep with
     | true =>
      cases pcx with
      | step s => exact absurd (show x ∈ ([]:List Nat) from hx) List.not_mem_nil
      | _ => cases hst
     | false => rw [ok3 hst] at hx; exact hnmg x hx
    refine ⟨_,s3 _ _ hl2,by rw [hxl]; exact Nat.lt_of_le_of_lt (show ps.length ≤ 5 by omega) (by decide),jqB (s2.trans s3) n1,_,ps ++ [pcx],xs ++ [.ref b],rfl,PcT.append (.cons (st _ _ hbx) .nil) ((hP.mono s3.toT).mono st),aqk,by rw [List.length_append,List.length_singleton,hpl],fun y hy => ?_,hnp.snoc fun h9 => by rw [hpl,ok3 h9]; exact hnm⟩
    rcases List.mem_append.mp hy with z | z
    ·exact hok y z
    ·rw [List.mem_singleton.mp z]; exact ⟨⟨ok1,sgx⟩,ok2⟩
   ·rintro σ H2 ⟨s2,v5,ps,xs,rfl,hP,hl2,hpl,hok,hnp⟩
    exact ⟨s2,v5,ps,xs,rfl,hP,hl2,hpl,hok,hnp⟩
  rintro σ H2 ⟨s2,v5,ps,xs,rfl,hP,hl2,hpl,hok,hnp⟩
  have hxl:=hP.length
  walk_at "rd"
  refine ⟨fun σ H3 => Same H H3∧∃ (ps:List Pc) (xs:List V),σ=[some (.int c),some (.ref pn),some (.int (m:Int)),some (.ref p1),v5]∧PcT H3 ps xs∧H3 p1=some (.lst xs)∧ps.length ≤ 5∧(∀ x ∈ ps,PcOk x∧PcSg x)∧LastR ps∧NmP ns ps,⟨⟨by decide,by decide⟩,by decide,ite2 (fun _ => ⟨by decide,fun p3 H3 n3 s3 hp3 => ?_⟩) (fun _ => ⟨s2,ps,xs,rfl,hP,hl2,by omega,fun x hx => (hok x hx).1,mqI fun x hx => (hok x hx).2,hnp⟩)⟩,?_⟩
  ·have hP3:=hP.mono s3.toT
   have hl3:=s3 _ _ hl2
   refine ⟨.list (ps.map pcD),.list [],.lst hl3 hP3.isT.is,.lst hp3 .nil,(mqE fun c hc => (hok c hc).1.2).shaped (by decide),by decide +kernel,_,rfl,?_⟩
   rw [jqD]
   refine ite2 (fun hne => ?_) (fun _ => ⟨s2.trans s3,ps,xs,rfl,hP3,hl3,by omega,fun x hx => (hok x hx).1,mqI fun x hx => (hok x hx).2,hnp⟩)
   have hpos:0 < ps.length:=by
    cases ps with
    | nil => cases hne
    | cons a b => simp
   obtain ⟨nm,hnm⟩:∃ z,ns[m - 1]?=some z:=⟨_,List.getElem?_eq_getElem (by omega)⟩
   refine ⟨_,_,.inl (.of ((s2.trans s3) _ _ hpn)),by rw [show ((m:Int) - 1)=((m - 1:Nat):Int) by omega]; exact aqi (by rw [List.getElem?_map,hnm]; rfl),by decide,fun p4 H4 n4 s4 hp4 => ?_⟩
   have hl4:=s4 _ _ hl3
   have h4l:p4 ≠ p1:=fun z => by rw [z,hl4] at hp4; cases hp4
   refine ⟨xs,xs.length - 1,hl4,?_,?_⟩
   ·have hx0:0 < xs.length:=by omega
    unfold ixN
    rw [if_neg (by omega)]
    rw [if_pos (by omega)]
    congr 1
    omega
   have ex:xs.set (xs.length - 1) (.ref p4)=xs.take (ps.length - 1) ++ [.ref p4]:=by
    rw [List.set_eq_take_append_cons_drop,if_pos (by omega),hxl,List.drop_eq_nil_of_le (by omega)]
   rw [ex]
   have st:=eqZ (ys:=xs.take (ps.length - 1) ++ [.ref p4]) hl4
   refine ⟨jqB ((s2.trans s3).trans s4) n1,ps.take (ps.length - 1) ++ [.rest nm],_,rfl,PcT.append (.cons (st _ _ hp4) .nil) (((hP3.mono s4.toT).mono st).take _),aqk,by rw [List.length_append,List.length_take,List.length_singleton]; omega,fun x hx => ?_,mq5 fun x hx => (hok x (List.mem_of_mem_take hx)).2,(hnp.take _).snoc fun _ => by rw [List.length_take,show min (ps.length - 1) ps.length=m - 1 by omega]; exact hnm⟩
   rcases List.mem_append.mp hx with z | z
   ·exact (hok x (List.mem_of_mem_take z)).1
   ·rw [List.mem_singleton.mp z]; exact ⟨trivial,lqC trivial (hns nm (List.mem_of_getElem? hnm))⟩
  clear hP hl2 hok hnp hxl hpl s2
  clear ps xs H2
  rintro σ H3 ⟨s3,ps,xs,rfl,hP,hl3,hpl,hok,hlr,hnp⟩
  walk_at "rd"
  refine ⟨_,.inl (.of hl3),fun t H4 s4 ht => ⟨by decide,fun p5 H5 n5 s5 hp5 => ?_⟩⟩
  have s45:=s4.trans s5
  have hP5:=hP.mono s45.toT
  refine ⟨.list (ps.map pcD),.list [],.lst (s45 _ _ hl3) hP5.isT.is,.lst hp5 .nil,(mqE fun c hc => (hok c hc).2).shaped (by decide),by decide +kernel,_,rfl,?_⟩
  refine ite2 (fun _ => ⟨by decide,fun p6 H6 n6 s6 hp6 => ?_⟩) (fun _ => ⟨⟨by decide,by decide⟩,by decide,by decide,fun p6 H6 n6 s6 hp6 => ?_⟩)
  ·exact k ps _ p6 H6 hok hlr hnp hpl ((s3.trans s45).trans s6) ⟨t,_,hp6,(s5.trans s6) _ _ ht,hP5.mono s6.toT⟩
  ·exact k ps _ p6 H6 hok hlr hnp hpl ((s3.trans s45).trans s6) ⟨t,_,hp6,(s5.trans s6) _ _ ht,hP5.mono s6.toT⟩
theorem iqC (g:G w K mg):FnOk P w K mg base CX0 5 g.cqP g.cqh ["_law_pattern_here","_law_cells"] (iqM K):=by
 refine g.eql.ok bqu (fun vs H Q E h => ?_) (fun cdv A outer s H vs Q E hr h => ?_)
 ·obtain ⟨cs,e,p,pc,is,rfl,_⟩:=h; rfl
 ·obtain ⟨cs,e,p,pc,is,rfl,hpt,hok,hcl,hpc,hi0,hi1,k⟩:=h
  refine ⟨_,(aqh (aqv (i:=2) bqu.nd rfl (Or.inl rfl) (aqC aqb))
   (aqh (cqv PassesOwn.never rfl (mqd (K:=K) rfl rfl g.dq3 (aqa (aqj (kqH g) (hr.mono (by decide)) rfl g.iqd g.fqG.kp g.hqZ .nil pass0 (aqa (pv 0) aqb)) aqb)) (eqP (n:=2) (K:=K) rfl rfl (aqS (aqE (i:=3) bqu.nd rfl (Or.inl rfl)) (aqS (aqE (i:=4) bqu.nd rfl (Or.inl rfl)) eqp)))
   (aqh (aqv (i:=5) bqu.nd rfl (Or.inl rfl) (aqn aqA (aqo (aqf (K:=K) rfl) (pv 1) (aqn aqJ (pv 3) (aqs (aqt (K:=K) rfl) rfl g.bqa PySem.boot_len (aqa (pv 1) aqb))) (fun _ _ => rfl)) (aqn (aqx (K:=K)) (aqn aqA (pv 3) (aqs (aqt (K:=K) rfl) rfl g.bqa PySem.boot_len (aqa (pv 1) aqb))) aqc)))
   (aqg (cq2 (dqW (K:=K) rfl PySem.F.plainAttrs_list PySem.F.slot_list_append PySem.F.type_list_append bqe (pv 2) (aqa (aqR (aqa (aqj (iqp g) (hr.mono (by decide)) rfl g.fqB g.dqy.kp g.fqE .nil pass0 (aqa (pv 4) aqb)) (aqa (aqj (jqX g) (hr.mono (by decide)) rfl g.hqd g.eqM.kp g.gq9 .nil pass0 (aqa (pv 4) (aqa (pv 5) aqb))) aqb))) aqb))))))
   (aqg (aqp (pv 2))))),?_⟩
  walk_at "rd"
  have hpcl:(is.map V.int).length=is.length:=List.length_map ..
  refine ⟨by decide,fun l H1 n1 s1 hl => ⟨cs,e,p,rfl,hpt.mono s1.toT,by omega,fun lg xs H2 n2 s2 hlg hx => ?_⟩⟩
  obtain ⟨gs,hgs⟩:∃ gs,gs=cs.filter fun c => !c.isStep:=⟨_,rfl⟩
  rw [<- hgs] at hx
  have hxl:=hx.length
  have hgl:gs.length ≤ 12:=by have:=List.length_filter_le (fun c:Pc => !c.isStep) cs; rw [<- hgs] at this; omega
  have hgo:∀ c ∈ gs,PcOk c∧c.isStep=false:=fun c hc => by
   rw [hgs] at hc
   obtain ⟨h1,h2⟩:=List.mem_filter.mp hc
   exact ⟨hok c h1,by simpa using h2⟩
  refine ⟨lg,xs,rfl,.of hlg,?_⟩
  have hgl2:lg ≠ l:=fun z => by rw [z,hl] at n2; cases n2
  refine jqp (xs:=xs) (fun i σ H' => H' lg=some (.lst xs)∧PcT H' gs xs∧∃ (bs:List (List Nat × Vl)) (ys:List V) (v3 v4 v5:Option V),σ=[some (.ref p),some (.ref pc),some (.ref l),v3,v4,v5]∧GvA (gs.take i) bs∧FrB H H' ys∧Same H H'∧H' l=some (.lst ys)∧BndV H' l bs ys∧bs.length=i∧∀ b ∈ bs,SmV b.2) ⟨hlg,hx,[],[],none,none,none,rfl,.nil,(show FrB H H2 [] from fun v hv => by cases hv),s1.trans s2,s2 _ _ hl,.nil,rfl,(fun b hb => by cases hb)⟩ (fun i σ H' _ h => .of h.1) ?_ ?_
  rotate_left
  ·rintro σ H3 ⟨hlg3,hx3,bs,ys,v3,v4,v5,rfl,hG,hF,s3,hl3,hB,hbl,hsm⟩
   walk_at "rd"
   rw [hxl,List.take_length,hgs] at hG
   exact k bs l ys H3 hG.whole hsm n1 hF s3 hl3 hB
  rintro i v σ H3 T hv ⟨hlg3,hx3,bs,ys,v3,v4,v5,rfl,hG,hF,s3,hl3,hB,hbl,hsm⟩ hT
  obtain ⟨c,b,hc,rfl,hb⟩:=hx3.get hv
  have hi:i < gs.length:=(List.getElem?_eq_some_iff.mp hc).1
  obtain ⟨co,cst⟩:=hgo c (List.mem_of_getElem? hc)
  have sT:Same H3 (upd H3 T (.tup [.int (i:Int),.ref b])):=aqK hT
  walk_at "rd"
  refine ⟨T,_,rfl,.of aqk,rfl,_,_,rfl,_,_,rfl,rfl,?_⟩
  generalize upd H3 T (.tup [.int (i:Int),.ref b])=H4 at sT
  have u4:=s3.trans sT
  have hpc4:=u4.seq hpc
  walk_at "rd"
  obtain ⟨j,hj,ej⟩:∃ j:Nat,j < is.length∧(i:Int) % (is.length:Int)=(j:Int):=by
   have h1:=Int.emod_nonneg (i:Int) (show (is.length:Int) ≠ 0 by omega)
   have h2:=Int.emod_lt_of_pos (i:Int) (show 0 < (is.length:Int) by omega)
   exact ⟨((i:Int) % (is.length:Int)).toNat,by omega,by omega⟩
  have hd0:0 ≤ (i:Int) / (is.length:Int):=Int.ediv_nonneg (by omega) (by omega)
  have hd1:(i:Int) / (is.length:Int) ≤ (i:Int):=Int.ediv_le_self _ (by omega)
  refine ⟨_,.inl hpc4,?_⟩
  rw [hpcl]
  refine ⟨by omega,_,.int is[j],.inl hpc4,by rw [ej]; exact aqi (by rw [List.getElem?_map,List.getElem?_eq_getElem hj]; rfl),_,.inl hpc4,?_⟩
  rw [hpcl]
  refine ⟨⟨by omega,by omega⟩,rd_I.mpr ⟨⟨by omega,by omega⟩,?_⟩⟩
  generalize is[j] / ((i:Int) / (is.length:Int) + 1)=cc
  have hl4:=sT _ _ hl3
  have hb4:=sT _ _ hb
  have hyl:=hB.length
  refine ⟨⟨_,.of hl4⟩,c,b,rfl,.of hb4,cst,c,b,cc,rfl,hb4,co,cst,fun x v H5 hg hsx s5 hv5 hn5 => ⟨by decide,fun p6 H6 n6 s6 e6 => ?_⟩⟩
  have s36:=(sT.trans s5).trans s6
  have hl6:=s36 _ _ hl3
  have hvl:∀ q,v=.ref q->q ≠ l:=fun q z w => by
   have:=hn5 q z
   rw [w,hl4] at this
   cases this
  have sL:=eqZ (ys:=ys ++ [.ref p6]) hl6
  refine ⟨ys,hl6,Nat.lt_of_le_of_lt (show ys.length ≤ 12 by omega) (by decide),by rw [aqq hgl2]; exact s36 _ _ hlg3,(hx3.mono s36.toT).mono sL,bs ++ [(c.name,x)],ys ++ [.ref p6],_,_,_,⟨rfl,rfl,rfl⟩,?_,((hF.mono s36.toT).snoc e6 fun q z => gqh u4 (hn5 q z)).mono sL,cqm n1 (s3.trans s36),aqk,((hB.mono s36).snoc e6 (hv5.mono s6) hvl).upd hl6,by rw [List.length_append,List.length_singleton,hbl],fun z hz => ?_⟩
  ·rw [List.take_add_one,hc]
   exact hG.snoc cst hg
  ·rcases List.mem_append.mp hz with y | y
   ·exact hsm z y
   ·rw [List.mem_singleton.mp y]; exact hsx
theorem hqn (g:G w K mg):FnOk P w K mg base (CXN P w base) 6 g.cqi g.bqV ["piece","values"] (hqk K g.aqD):=by
 refine g.dqz.okn eq0 (fun vs H Q E h => ?_) (fun cdv A outer s H vs Q E hr h => ?_)
 ·obtain ⟨c,p,pz,ws,ys,rfl,_⟩:=h; rfl
 ·obtain ⟨c,p,pz,ws,ys,rfl,hp,hh,ht,hpv,hw,hwl,hws,kQ,kE⟩:=h
  refine ⟨_,(aqh (aqI (hqh (dqF (aqj (hq9 g) (hr.mono (by decide)) rfl g.hqu g.gqg.kp g.hqr .nil pass0 (aqa (pv 0) aqb))))
    (aqg (aqp (aqC (aqa (aqo (aqf (K:=K) rfl) (pv 0) aqc (fun _ _ => rfl)) aqb)))) aqw)
   (aqh (pqz (i:=2) (K:=K) (fx:=["piece"]) (fr:=[0]) eq0.nd rfl rfl rfl rfl rfl (by decide +kernel) rfl (by decide +kernel) rfl rfl (by decide +kernel) rfl (.cons rfl rfl rfl rfl .nil) rfl (dq2 (K:=K) rfl (pv 1)) (fun _ _ _ => (iqZ (aqm aqT (pv 0) (aqj (fqi g) (hr.mono (by decide)) rfl g.eq5 g.dqU.kp g.eq9 .nil pass0 (aqa (pv 2) aqb)) (nomark _)))) (fun _ _ _ => (pv 1)))
   (aqh (aqI (PW.pt (kq1 (aqm lqd (aqs (aqt (K:=K) rfl) rfl g.bqa PySem.boot_len (aqa (pv 2) aqb)) aqc (nomark _)) (hqY (hqh (dqF (aqj (lqw g) (hr.mono (by decide)) rfl g.iq7 g.gqJ.kp g.iqR .nil pass0 (aqa (pv 0) (aqa (aqo (aqf (K:=K) rfl) (pv 2) aqc (fun _ _ => rfl)) aqb))))))))
    (aqg (kqy jqi rfl g.gqb g.iqh (cqZ g) (hr.mono (by decide)) g.bqS rfl pass0 rfl (aqa (aqj (fqi g) (hr.mono (by decide)) rfl g.eq5 g.dqU.kp g.eq9 .nil pass0 (aqa (pv 0) aqb)) aqb))) aqw)
   (aqg (aqp (aqj (gqF g) (hr.mono (by decide)) rfl g.eqA g.cqp.kp g.eqx .nil pass0 (aqa (pv 0) (aqa (aqo (aqf (K:=K) rfl) (pv 2) aqc (fun _ _ => rfl)) aqb)))))))),?_⟩
  walk_at "rd"
  refine ⟨c,p,rfl,hp,_,rfl,?_⟩
  cases hst:c.isStep with
  | true =>
   refine ite2 (fun _ => ?_) (fun z => absurd rfl z)
   cases c with
   | step s => exact ⟨_,_,.inr hp,aqi (j:=1) rfl,by decide,fun p1 H1 n1 s1 hp1 => kQ [s] rfl p1 H1 s1 hp1⟩
   | _ => cases hst
  | false =>
   refine ite2 (fun z => absurd z (by decide)) (fun _ => ?_)
   have hyl:=hw.length
   rw [hqU hst] at kQ kE
   refine ⟨⟨_,.of hpv⟩,fun p0 n0 => ?_⟩
   refine lqW (fun i => prAt H ys i) (fun i => decide ((ws[i]?.map (·.1))=some c.name)) (fun i => (prAt H ys i).2) (.of hpv) (aqu (by omega)) n0 (fun i x H1 hx s1 => ?_) (fun i hi H1 R s1 hR => ?_) (fun i hi ht H1 T s1 hT => ?_) (fun H1 s1 hp1 => ?_)
   ·obtain ⟨n,d,b,v,h1,rfl,h3,h4⟩:=hw.get hx
    rw [lq3 hx h3]
    exact ⟨b,rfl,.of (s1 _ _ h3)⟩
   ·have hx:ys[i]?=some ys[i]:=List.getElem?_eq_getElem hi
    obtain ⟨n,d,b,v,h1,h2,h3,h4⟩:=hw.get hx
    rw [h2] at hx
    rw [lq3 hx h3]
    have:=hR H1 (Same.refl _)
    rw [h1] at this
    walk_at "rd"
    refine ⟨c,p,rfl,s1.tup hp,hst,aqy.mpr ⟨_,rfl,?_⟩⟩
    have e:decide ((⟨n.toArray⟩:Str)=⟨c.name.toArray⟩)=decide ((some (n,d)).map (·.1)=some c.name):=by
     rw [decide_eq_decide,dqT]
     exact ⟨fun z => by rw [z]; rfl,fun z => Option.some.inj z⟩
    rw [e]
    exact this
   ·walk_at "rd"
    exact hT H1 (Same.refl _)
   have hall:=lqB hw c.name (fun i => (prAt H ys i).2) (fun i m d q v h1 h2 h3 => by rw [lq3 h2 h3])
   have hex:H1 p0=some (.lst (((List.range ys.length).filter fun i => decide ((ws[i]?.map (·.1))=some c.name)).map fun i => (prAt H ys i).2)):=hp1
   generalize (((List.range ys.length).filter fun i => decide ((ws[i]?.map (·.1))=some c.name)).map fun i => (prAt H ys i).2)=ls at hall hex
   clear hp1
   have hsn:∀ d ∈ named ws c.name,smallD d=true:=fun d hd => by
    obtain ⟨q,hq,rfl⟩:=List.mem_map.mp hd
    exact hws q (List.mem_filter.mp hq).1
   have hll:=hall.length
   have raise:(match named ws c.name with | [d] => if isValD c d=true then (.ok (stpsD c d):Except (List Nat) (List (List Nat))) else .error c.name | _ => .error c.name)=.error c.name->∀ H2,Same H H2->jql K [V.ref p] H2 (fun x H1 => ∀ (a:Addr),H1 a=none->bqE K g.aqD [V.ref a,x] (upd H1 a (exNew a g.aqD)) (fun v H2 => v=V.non∧∃ d,H2 a=some (exSet a g.aqD d)∧E (Value.ref g.aqD) (some d) (forget H2 a)) E0) E0:=fun he H2 s2 =>
    ⟨c,p,rfl,s2.tup hp,hst,iqY fun d H3 s3 hd => kE c.name he d H3 (s2.trans s3) hd⟩
   refine oqL.mpr ⟨ls,.inl (.of hex),pqe.mpr ⟨_,rfl,?_⟩⟩
   cases hn:named ws c.name with
   | nil =>
    rw [hn] at raise hll
    refine ite2 (fun _ => raise rfl H1 s1) (fun z => ?_)
    exact absurd (by rw [<- hll]; decide) z
   | cons d r =>
    cases r with
    | cons d2 r2 =>
     rw [hn] at raise hll
     refine ite2 (fun _ => raise rfl H1 s1) (fun z => ?_)
     refine absurd ?_ z
     rw [<- hll]
     simp only [List.length_cons]
     simp
     omega
    | nil =>
     rw [hn] at raise hll kQ kE hall hsn
     refine ite2 (fun z => ?_) (fun _ => ?_)
     ·exact absurd z (by rw [<- hll]; simp)
     have hd:smallD d=true:=hsn d (List.mem_singleton.mpr rfl)
     obtain ⟨u,rfl,hu⟩:∃ u,ls=[u]∧Is H d u:=by
      cases hall with
      | cons h r => cases r; exact ⟨_,rfl,h⟩
     refine nq6.mpr ⟨_,u,.inl (.of hex),rfl,c,p,d,u,rfl,s1.tup hp,hst,hh,ht,hu.mono s1,hd,fun H2 s2 => ⟨_,rfl,?_⟩⟩
     have s12:=s1.trans s2
     refine ite2 (fun hv => raise ?_ H2 s12) (fun hv => ?_)
     ·exact if_neg (by rw [hv]; decide)
     ·have hv:isValD c d=true:=by simpa using hv
      refine nq6.mpr ⟨_,u,.inl (.of (s2 _ _ hex)),rfl,c,p,d,u,rfl,s12.tup hp,hst,hh,ht,hu.mono s12,hd,hv,fun q H3 s3 hq => kQ (stpsD c d) (if_pos hv) q H3 (s12.trans s3) hq⟩
theorem rqF (g:G w K mg):FnOk P w K mg base CX0 6 g.mqL g.jqR ["table","way"] (rqW K):=by
 refine g.nqL.ok lqN (fun vs H Q E h => ?_) (fun cdv A outer s H vs Q E hr h => ?_)
 ·obtain ⟨l,pw,ps,T,ws,r,e,ss,rfl,_⟩:=h; rfl
 ·obtain ⟨l,pw,ps,T,ws,r,e,ss,rfl,hl,hT,hok,hTl,hpw,hps,hsl,hss,k0,k⟩:=h
  refine ⟨_,(aqH (lqF (i:=2) (fx:=["way"]) (fr:=[1]) lqN.nd rfl rfl rfl rfl (by decide +kernel) rfl (by decide +kernel) rfl (by decide +kernel) rfl (.cons rfl rfl rfl rfl .nil) rfl (dq2 (K:=K) rfl (pv 0)) (fun _ _ _ => (iqZ (dqF (aqj (oqE g) (hr.mono (by decide)) rfl g.pqq g.mqQ.kp g.oq1 .nil pass0 (aqa (aqo (aqf (K:=K) rfl) (pv 0) aqc (fun _ _ => rfl)) (aqa (pv 1) aqb)))))) (fun _ _ _ => (pv 0)))
   (aqh (aqI (aqm aqT (aqs (aqt (K:=K) rfl) rfl g.bqa PySem.boot_len (aqa (pv 2) aqb)) aqc (nomark _))
    (aqg (aqp gq7)) aqw)
   (aqh (aqv (i:=3) lqN.nd rfl (Or.inl rfl) (aqj (kqk g) (hr.mono (by decide)) rfl g.hqa g.eqX.kp g.gq2 .nil pass0 (aqa (pv 2) aqb)))
   (aqg (aqp (aqR (aqa (aqo (aqf (K:=K) rfl) (pv 3) aqc (fun _ _ => rfl)) (aqa (aqj (qqA g) (hr.mono (by decide)) rfl g.nq3 g.lqJ.kp g.nqQ .nil pass0 (aqa (aqo (aqf (K:=K) rfl) (pv 3) aqc (fun _ _ => rfl)) (aqa (pv 1) aqb))) aqb)))))))),?_⟩
  walk_at "rd"
  have hwl:=hT.length
  refine ⟨fun σ H1 => Same H H1∧∃ (l1:Addr) (us:List V),σ=[some (.ref l),some (.ref pw),some (.ref l1),none]∧H1 l1=some (.lst us)∧TbV H1 (T.filter (fitR r e ss)) us,⟨⟨_,.of hl⟩,fun l1 n1 => ?_⟩,?_⟩
  ·refine lqs (fun i => match T[i]? with | some t => fitR r e ss t | none => false) (fun i => ws[i]?.getD .non) (.of hl) (aqu (by omega)) n1 (fun i x hxi H1 R s1 hR => ?_) (fun i x hxi ht H1 T' s1 hT' => ?_) (fun H1 s1 hl1 => ?_)
   ·obtain ⟨t,ht,a,p,rfl,ha,q,xs,hp,hq,hx⟩:=hT.get hxi
    have ot:=hok t (List.mem_of_getElem? ht)
    have o90:=ot.1
    rw [ht] at hR
    walk_at "rd"
    refine ⟨_,_,.inr (.of (s1 _ _ ha)),aqi (j:=1) rfl,?_⟩
    exact ⟨t.2.1,xs,p,q,pw,ps,t.2.2,r,e,ss,rfl,.of (s1 _ _ hp),s1 _ _ hq,(hx.mono s1.toT).all,by omega,(fun c hc => by have:=(ot.2 c hc).1.ends; exact ⟨by omega,by omega⟩),.of (s1 _ _ hpw),.of (s1 _ _ hps),hsl,hss,fun H2 s2 => ⟨_,rfl,hR H2 s2⟩⟩
   ·rw [hxi] at hT'
    walk_at "rd"
    exact hT' H1 (Same.refl _)
   ·exact ⟨s1,l1,_,rfl,hl1,(hT.mono s1.toT).pick⟩
  rintro σ H1 ⟨s1,l1,us,rfl,hl1,hU⟩
  have hul:=hU.length
  walk_at "rd"
  refine ⟨_,.inl (.of hl1),ite2 (fun h0 => k0 ?_ H1 s1) (fun h0 => ?_)⟩
  ·exact List.eq_nil_of_length_eq_zero (by omega)
  cases hF:T.filter (fitR r e ss) with
  | nil => rw [hF] at hul; exact absurd (by rw [hul]; rfl) h0
  | cons b L =>
   rw [hF] at hU hul
   have hsub:∀ t ∈ b :: L,t ∈ T∧fitR r e ss t=true:=fun t ht => List.mem_filter.mp (by rw [hF]; exact ht)
   have hLl:L.length ≤ 90:=by
    have:=List.length_filter_le (fitR r e ss) T
    rw [hF,List.length_cons] at this
    omega
   refine ⟨l1,b,L,us,rfl,hl1,hU,fun t ht => hok t (hsub t ht).1,hLl,fun v H2 s2 hv => ?_⟩
   obtain ⟨a,p,rfl,ha,q,xs,hp,hq,hx⟩:=hv
   have hm:=hsub _ (jqO (mr:=mrR) L b)
   have om:=hok _ hm.1
   have o90:=om.1
   have s02:=s1.trans s2
   walk_at "rd"
   refine ⟨_,_,.inr (.of ha),aqi (j:=0) rfl,_,_,.inr (.of ha),aqi (j:=1) rfl,?_⟩
   refine ⟨_,xs,p,q,pw,ps,_,r,e,ss,rfl,.of hp,hq,hx.all,by omega,(fun c hc => by have:=(om.2 c hc).1.ends; exact ⟨by omega,by omega⟩),.of (s02 _ _ hpw),s02 _ _ hps,hsl,hss,(fun z => by have hz:=hm.2; unfold fitR at hz; rw [hz] at z; cases z),fun _ l' ys H3 nl' _ s3 hl' hB => ⟨by decide,fun p4 H4 n4 s4 hp4 => k b L hF p4 l' ys H4 (gqh s02 nl') ((s02.trans s3).trans s4) hp4 (s4 _ _ hl') (hB.mono s4)⟩⟩
theorem jq4 (g:G w K mg):FnOk P w K mg base CX0 6 g.dqv g.cqD ["_law_script","_law_names_here","_law_labels","_law_first","_law_many"] (jqW K):=by
 refine g.eqR.ok aqF (fun vs H Q E h => ?_) (fun cdv A outer s H vs Q E hr h => ?_)
 ·obtain ⟨a,pn,pl,ns,nm,lb,m,rfl,_⟩:=h; rfl
 ·obtain ⟨a,pn,pl,ns,nm,lb,m,rfl,hS,hpn,hnl,hns,hpl,hll,hls,hm,k⟩:=h
  refine ⟨_,(aqh (aqv (i:=5) aqF.nd rfl (Or.inl rfl) (aqC aqb))
   (aqh (cqv PassesOwn.never rfl (cql rfl g.dq6 (aqa (pv 4) aqb)) (aqE (i:=6) aqF.nd rfl (Or.inl rfl))
   (aqh (aqv (i:=7) aqF.nd rfl (Or.inl rfl) (aqj (bqf g) (hr.mono (by decide)) rfl g.aq5 g.aqY.kp g.aq8 .nil pass0 (aqa (pv 0) (aqa (aqn (aqx (K:=K)) (pv 3) (pv 6)) aqb))))
   (aqH (aqv (i:=8) aqF.nd rfl (Or.inl rfl) (aqj (jqY g) (hr.mono (by decide)) rfl g.gq4 g.eq3.kp g.gq6 .nil pass0 (aqa (aqn aqA (pv 7) aqc) (aqa (pv 1) aqb))))
   (aqH (aqI (PW.pt (hqg (aqm aqT (aqn aqJ (pv 7) aqc) aqc (nomark _)) (eqE (aqm (gqk hr.units) (pv 5) (aqC aqb) (nomark _)))))
    (aqg (aqv (i:=8) aqF.nd rfl (Or.inl rfl) (aqo (aqf (K:=K) rfl) (aqo (aqf (K:=K) rfl) (pv 5) (aqn aqJ (aqn aqA (pv 7) aqc) (aqs (aqt (K:=K) rfl) rfl g.bqa PySem.boot_len (aqa (pv 5) aqb))) (fun _ _ => rfl)) aqc (fun _ _ => rfl)))) aqw)
   (aqH (aqI (PW.pt (hqg (aqm aqT (aqn aqJ (pv 7) aqc) aqc (nomark _)) (eqE (aqm (gqk hr.units) (pv 5) (aqC aqb) (nomark _)))))
    (aqh (mqH (aqo (aqf (K:=K) rfl) (aqo (aqf (K:=K) rfl) (pv 5) (aqn aqJ (aqn aqA (pv 7) aqc) (aqs (aqt (K:=K) rfl) rfl g.bqa PySem.boot_len (aqa (pv 5) aqb))) (fun _ _ => rfl)) aqc (fun _ _ => rfl)) (eqP (n:=2) (K:=K) rfl rfl (aqS (aqE (i:=9) aqF.nd rfl (Or.inl rfl)) (aqS (aqE (i:=10) aqF.nd rfl (Or.inl rfl)) eqp))))
   (aqh (aqv (i:=11) aqF.nd rfl (Or.inl rfl) (aqn aqJ (aqn aqA (pv 7) aqc) (aqn (aqx (K:=K)) (aqs (aqt (K:=K) rfl) rfl g.bqa PySem.boot_len (aqa (pv 9) aqb)) aqc)))
   (aqg (aqI (PW.pt (hqg (aqm lqz (pv 11) (aqs (aqt (K:=K) rfl) rfl g.bqa PySem.boot_len (aqa (pv 9) aqb)) (nomark _)) (eqE (aqm lqd (aqo (aqf (K:=K) rfl) (aqo (aqf (K:=K) rfl) (pv 9) (pv 11) (fun _ _ => rfl)) aqc (fun _ _ => rfl)) aqr (nomark _)))))
    (aqg (aqv (i:=8) aqF.nd rfl (Or.inl rfl) (aqR (aqa (aqn (aqx (K:=K)) (aqn (aqx (K:=K)) (cqd jqF (pv 9) cqW (bqD (pv 11))) (aqR (aqa (aqR (aqa aqr (aqa (aqo (aqf (K:=K) rfl) (pv 1) (pv 11) (fun _ _ => rfl)) aqb))) aqb))) (cqd jqF (pv 9) (bqD (aqn (aqx (K:=K)) (pv 11) aqc)) cqW)) (aqa (pv 10) aqb))))) aqw)))) aqw)
   (aqg (cq2 (dqW (K:=K) rfl PySem.F.plainAttrs_list PySem.F.slot_list_append PySem.F.type_list_append bqe (pv 5) (aqa (aqR (aqa (aqo (aqf (K:=K) rfl) (pv 2) (pv 6) (fun _ _ => rfl)) (aqa (pv 8) aqb))) aqb)))))))))
   (aqg (aqp (pv 5))))),?_⟩
  walk_at "rd"
  refine ⟨by decide,fun l H1 n1 s1 hl => ⟨by omega,by omega,?_⟩⟩
  rw [Int.toNat_natCast]
  refine dqQ (fun i σ H' => Same H H'∧∃ (T:List Rw) (ws:List V) (v6 v7 v8 v9 v10 v11:Option V),σ=[some (.ref a),some (.ref pn),some (.ref pl),some (.int 3),some (.int (m:Int)),some (.ref l),v6,v7,v8,v9,v10,v11]∧H' l=some (.lst ws)∧TbV H' T ws∧TabOk T∧T.length=i∧(∀ t ∈ T,NmP nm t.2.1)∧T.map (·.1)=lb.take i) ⟨s1,[],[],none,none,none,none,none,none,rfl,hl,.nil,(show TabOk [] from fun t ht => by cases ht),rfl,(fun t ht => by cases ht),rfl⟩ ?_ ?_
  rotate_left
  ·rintro σ H2 ⟨s2,T,ws,v6,v7,v8,v9,v10,v11,rfl,hl2,hT,hok,hTl,hTn,hTb⟩
   walk_at "rd"
   exact k T ws l H2 n1 s2 hl2 hT hok hTl hTn hTb
  rintro i σ H2 hi ⟨s2,T,ws,v6,v7,v8,v9,v10,v11,rfl,hl2,hT,hok,hTl,hTn,hTb⟩
  have hwl:=hT.length
  walk_at "rd"
  obtain ⟨C,hC⟩:∃ C:Int->St->Hp->Prop,C=fun c σ H3 => Same H2 H3∧∃ (cs:List Pc) (e:Bool) (p:Addr) (w9 w10 w11:Option V),σ=[some (.ref a),some (.ref pn),some (.ref pl),some (.int 3),some (.int (m:Int)),some (.ref l),some (.int (0 + (i:Int))),some (.int c),some (.ref p),w9,w10,w11]∧PtAt H3 cs e p∧PcsOk cs∧LastR cs∧cs.length ≤ 5∧NmP nm cs:=⟨_,rfl⟩
  refine ⟨a,ns,3 + i,by rw [show (3:Int) + (0 + (i:Int))=((3 + i:Nat):Int) by omega],s2.seq hS,?_⟩
  generalize ns.getD (3 + i) 0=c
  walk_at "rd"
  refine ⟨C c,⟨⟨by decide,by decide⟩,c / 4,pn,nm,rfl,s2 _ _ hpn,by omega,by omega,hns,fun ps e p H3 h1 h2 h9 h3 s3 h4 => ?_⟩,?_⟩
  ·rw [hC]
   exact ⟨s3,ps,e,p,_,_,_,rfl,h4,⟨by omega,h1⟩,h2,h3,h9⟩
  have row:∀ {H3:Hp},Same H2 H3->(0:Int) < (ws.length:Int)->∀ z:Int,∃ (v:V) (t:Rw),atI ws (z % (ws.length:Int))=some v∧RwAt H3 t v∧t ∈ T:=fun {H3} s3 h0 z => by
   obtain ⟨j,hj,ej⟩:∃ j:Nat,j < ws.length∧z % (ws.length:Int)=(j:Int):=by
    have h1:=Int.emod_nonneg z (show (ws.length:Int) ≠ 0 by omega)
    have h2:=Int.emod_lt_of_pos z h0
    exact ⟨(z % (ws.length:Int)).toNat,by omega,by omega⟩
   obtain ⟨w,hw⟩:∃ w,ws[j]?=some w:=⟨_,List.getElem?_eq_getElem hj⟩
   obtain ⟨t,ht,hr⟩:=hT.get hw
   exact ⟨w,t,by rw [ej]; exact aqi hw,hr.mono s3.toT,List.mem_of_getElem? ht⟩
  have some_:∀ {H3:Hp}{p5:Addr},Same H2 H3->H3 p5=some (.lst [])->∀ R:VK,((0:Int) < (ws.length:Int)->R (.bl true) H3)->R (.bl false) H3->rNeD (.ref l) (.ref p5) H3 R:=fun {H3 p5} s3 e5 R r1 r2 => by
   refine ⟨.list (T.map rwD),.list [],.lst (s3 _ _ hl2) (hT.mono s3.toT).isAll,.lst e5 .nil,oq9 hok,by decide +kernel,?_⟩
   rw [jqD,List.isEmpty_map]
   cases T with
   | nil => exact r2
   | cons t T => exact r1 (by rw [hwl,List.length_cons]; omega)
  rw [hC]
  rintro σ H3 ⟨s3,cs,e,p,w9,w10,w11,rfl,hpt,hco,hlr,hcl,hnp⟩
  walk_at "rd"
  refine ⟨C c,⟨by decide,ite2 (fun _ => ⟨by decide,fun p5 H5 n5 s5 e5 => ?_⟩) (fun _ => ?_)⟩,?_⟩
  ·have s35:=s3.trans s5
   refine some_ s35 e5 _ (fun h0 => ⟨_,rfl,ite2 (fun _ => ⟨⟨by decide,by decide⟩,_,.inl (.of (s35 _ _ hl2)),h0,?_⟩) (fun z => absurd rfl z)⟩) ⟨_,rfl,ite2 (fun z => by cases z) (fun _ => by rw [hC]; exact ⟨s35,cs,e,p,_,_,_,rfl,hpt.mono s5.toT,hco,hlr,hcl,hnp⟩)⟩
   obtain ⟨v,t,hv,⟨a',p',rfl,ha',hpt'⟩,htT⟩:=row s35 h0 (c / 4)
   obtain ⟨t1,t2,t3,t4⟩:=hok t htT
   refine ⟨_,_,.inl (.of (s35 _ _ hl2)),hv,?_⟩
   walk_at "rd"
   refine ⟨_,_,.inr (.of ha'),aqi (j:=1) rfl,?_⟩
   rw [hC]
   exact ⟨s35,t.2.1,t.2.2,p',_,_,_,rfl,hpt',t2,t3,t4,hTn t htT⟩
  ·rw [hC]
   exact ⟨s3,cs,e,p,_,_,_,rfl,hpt,hco,hlr,hcl,hnp⟩
  clear hpt hco hlr hcl hnp s3 cs e p w9 w10 w11 H3
  rw [hC]
  rintro σ H3 ⟨s3,cs,e,p,w9,w10,w11,rfl,hpt,hco,hlr,hcl,hnp⟩
  walk_at "rd"
  refine ⟨C c,⟨by decide,ite2 (fun _ => ⟨by decide,fun p5 H5 n5 s5 e5 => ?_⟩) (fun _ => ?_)⟩,?_⟩
  ·have s35:=s3.trans s5
   refine some_ s35 e5 _ (fun h0 => ⟨_,rfl,ite2 (fun _ => ⟨⟨by decide,by decide⟩,_,.inl (.of (s35 _ _ hl2)),h0,?_⟩) (fun z => absurd rfl z)⟩) ⟨_,rfl,ite2 (fun z => by cases z) (fun _ => by rw [hC]; exact ⟨s35,cs,e,p,_,_,_,rfl,hpt.mono s5.toT,hco,hlr,hcl,hnp⟩)⟩
   obtain ⟨v,t,hv,⟨a',p',rfl,ha',hpt'⟩,htT⟩:=row s35 h0 (c / 4)
   obtain ⟨t1,t2,t3,t4⟩:=hok t htT
   obtain ⟨q',xs,hp',hq',hx⟩:=hpt'
   have hxl:=hx.length
   refine ⟨_,_,.inl (.of (s35 _ _ hl2)),hv,?_⟩
   walk_at "rd"
   refine ⟨_,_,.inr (.of ha'),aqi (j:=1) rfl,p',_,rfl,.of hp',rfl,_,_,rfl,_,_,rfl,rfl,?_⟩
   walk_at "rd"
   obtain ⟨mm,hmm,em⟩:∃ mm:Nat,mm ≤ xs.length∧c / 64 % ((xs.length:Int) + 1)=(mm:Int):=by
    have h1:=Int.emod_nonneg (c / 64) (show (xs.length:Int) + 1 ≠ 0 by omega)
    have h2:=Int.emod_lt_of_pos (c / 64) (show 0 < (xs.length:Int) + 1 by omega)
    exact ⟨(c / 64 % ((xs.length:Int) + 1)).toNat,by omega,by omega⟩
   refine ⟨⟨by decide,by decide⟩,_,.inr (.of hq'),by omega,_,.inr (.of hq'),?_⟩
   rw [em]
   have stay:∀ y9 y10 y11:Option V,C c [some (.ref a),some (.ref pn),some (.ref pl),some (.int 3),some (.int (m:Int)),some (.ref l),some (.int (0 + (i:Int))),some (.int c),some (.ref p),y9,y10,y11] H5:=fun y9 y10 y11 => by
    rw [hC]
    exact ⟨s35,cs,e,p,_,_,_,rfl,hpt.mono s5.toT,hco,hlr,hcl,hnp⟩
   refine ite2 (fun hlt => ?_) (fun _ => stay _ _ _)
   have hlt':mm < t.2.1.length:=by omega
   obtain ⟨w,hw⟩:∃ w,xs[mm]?=some w:=⟨_,List.getElem?_eq_getElem (by omega)⟩
   obtain ⟨d,pd,hd,rfl,hpd⟩:=hx.get hw
   refine ⟨_,_,.inr (.of hq'),aqi hw,?_⟩
   walk_at "rd"
   refine ⟨_,_,.inr (.of hpd),d.at0,jq9.mpr ⟨_,rfl,?_⟩⟩
   refine ite2 (fun _ => ?_) (fun _ => stay _ _ _)
   obtain ⟨nn,hnn⟩:∃ nn,nm[mm]?=some nn:=⟨_,List.getElem?_eq_getElem (by omega)⟩
   have u5:=s2.trans s35
   refine ⟨_,hq',fun p6 H6 s6 e6 => ⟨_,_,.inl (.of ((u5.trans s6) _ _ hpn)),aqi (by rw [List.getElem?_map,hnn]; rfl),by decide,fun p7 H7 n7 s7 e7 => ⟨by decide,fun p8 H8 n8 s8 e8 => ?_⟩⟩⟩
   rw [mqO] at e6
   refine .inr ⟨_,_,(s7.trans s8) _ _ e6,e8,aqu (by rw [List.length_take]; simp only [List.length_cons,List.length_nil]; omega),fun p9 H9 s9 e9 => ⟨_,(((s6.trans s7).trans s8).trans s9) _ _ hq',fun p10 H10 s10 e10 => ?_⟩⟩
   rw [show ((mm:Int) + 1)=((mm + 1:Nat):Int) by omega,hqB] at e10
   refine .inr ⟨_,_,s10 _ _ e9,e10,aqu (by rw [List.length_append,List.length_take,List.length_drop]; simp only [List.length_cons,List.length_nil]; omega),fun p11 H11 s11 e11 => ⟨by decide,fun p12 H12 n12 s12 e12 => ?_⟩⟩
   have u7:=(s8.trans s9).trans ((s10.trans s11).trans s12)
   have u12:=(s6.trans s7).trans u7
   have hx12:=hx.mono u12.toT
   have d12:H12 p7=some (.tup (Pc.gap nn).vals):=u7 _ _ e7
   rw [hC]
   refine ⟨s35.trans u12,t.2.1.take mm ++ [.gap nn] ++ t.2.1.drop (mm + 1),t.2.2,p12,_,_,_,rfl,⟨p11,_,e12,s12 _ _ e11,PcT.append (hx12.drop (mm + 1)) (PcT.append (.cons d12 .nil) (hx12.take mm))⟩,⟨?_,fun z hz => ?_⟩,oqt hlt' t3,?_,(hTn t htT).put hlt' hnn⟩
   ·rw [List.length_append,List.length_append,List.length_take,List.length_drop,List.length_singleton]; omega
   ·rcases List.mem_append.mp hz with z1 | z1
    ·rcases List.mem_append.mp z1 with z2 | z2
     ·exact t2.2 z (List.mem_of_mem_take z2)
     ·rw [List.mem_singleton.mp z2]; exact ⟨trivial,lqC trivial (hns nn (List.mem_of_getElem? hnn))⟩
    ·exact t2.2 z (List.mem_of_mem_drop z1)
   ·rw [List.length_append,List.length_append,List.length_take,List.length_drop,List.length_singleton]; omega
  ·rw [hC]
   exact ⟨s3,cs,e,p,_,_,_,rfl,hpt,hco,hlr,hcl,hnp⟩
  clear hpt hco hlr hcl hnp s3 cs e p w9 w10 w11 H3
  rw [hC]
  rintro σ H3 ⟨s3,cs,e,p,w9,w10,w11,rfl,hpt,hco,hlr,hcl,hnp⟩
  walk_at "rd"
  obtain ⟨nn,hnn⟩:∃ nn,lb[i]?=some nn:=⟨_,List.getElem?_eq_getElem (by omega)⟩
  refine ⟨⟨_,.of (s3 _ _ hl2)⟩,_,_,.inl (.of ((s2.trans s3) _ _ hpl)),by rw [Int.zero_add]; exact aqi (by rw [List.getElem?_map,hnn]; rfl),by decide,fun p4 H4 n4 s4 e4 => ?_⟩
  have hl4:=(s3.trans s4) _ _ hl2
  have sT:=eqZ (ys:=ws ++ [.ref p4]) hl4
  refine ⟨ws,hl4,Nat.lt_of_le_of_lt (show ws.length ≤ 16 by omega) (by decide),cqm n1 (s2.trans (s3.trans s4)),T ++ [(nn,cs,e)],ws ++ [.ref p4],_,_,_,_,_,_,⟨rfl,rfl,rfl,rfl,rfl,rfl⟩,aqk,TbV.append (.cons ⟨p4,p,rfl,sT _ _ e4,(hpt.mono s4.toT).mono sT⟩ .nil) ((hT.mono (s3.trans s4).toT).mono sT),fun t ht => ?_,by rw [List.length_append,List.length_singleton,hTl],fun t ht => ?_,by rw [List.map_append,hTb,List.take_add_one,hnn]; rfl⟩
  ·rcases List.mem_append.mp ht with z | z
   ·exact hok t z
   ·rw [List.mem_singleton.mp z]
    exact ⟨hls nn (List.mem_of_getElem? hnn),hco,hlr,hcl⟩
  ·rcases List.mem_append.mp ht with z | z
   ·exact hTn t z
   ·rw [List.mem_singleton.mp z]
    exact hnp
theorem nqy (g:G w K mg):FnOk P w K mg base (CXN P w base) 7 g.hqz g.fqV ["pattern","values"] (mq7 K g.aqD):=by
 refine g.jqw.okn iqi (fun vs H Q E h => ?_) (fun cdv A outer s H vs Q E hr h => ?_)
 ·obtain ⟨cs,xs,p,q,pz,cl,ws,ys,rfl,_⟩:=h; rfl
 ·obtain ⟨cs,xs,p,q,pz,cl,ws,ys,rfl,hp,hq,hx,hn,hsz,hpv,hw,hwl,hws,kQ,kE⟩:=h
  refine ⟨_,(aqh (aqv (i:=2) iqi.nd rfl (Or.inl rfl) (aqC aqb))
   (aqh (cqv PassesOwn.leaving rfl (hqI (K:=K) rfl (aqo (aqf (K:=K) rfl) (pv 0) (aqO (v:=cqM) rfl g.cqj ⟨_,rfl⟩) (fun _ _ => rfl))) (aqE (i:=3) iqi.nd rfl (Or.inl rfl))
   (aqg (cq2 (dqW (K:=K) rfl PySem.F.plainAttrs_list PySem.F.slot_list_extend PySem.F.type_list_extend nq0 (pv 2) (aqa (aqj (hqn g) (hr.mono (by decide)) rfl g.fqC g.dqz.kp g.fqz .nil fqs (aqa (pv 3) (aqa (pv 1) aqb))) aqb)))))
   (aqh (cq2 (aqj (gqO g) (hr.mono (by decide)) rfl g.eqI g.cq3.kp g.eqF .nil fqs (aqa (pv 0) (aqa (pv 1) aqb))))
   (aqg (aqp (aqR (aqa hq4 (aqa (bqT (fqK (K:=K) rfl) rfl g.iqt hqG (aqa (pv 2) aqb)) (aqa (aqo (aqf (K:=K) rfl) (pv 0) (aqO (v:=mqC) rfl g.jqG ⟨_,rfl⟩) (fun _ _ => rfl)) aqb))))))))),?_⟩
  walk_at "rd"
  have hxl:=hx.length
  refine ⟨by decide,fun p1 H1 n1 s1 hp1 => ⟨_,_,.inr (s1.tup hp),rfl,q,rfl,⟨_,s1.tup hq⟩,?_⟩⟩
  refine kqc (xs:=xs) (fun i σ H' => SameBut p1 H H'∧∃ (v3:Option V) (ss:List (List Nat)),σ=[some (.ref p),some (.ref pz),some (.ref p1),v3]∧fillF (cs.take i) ws=.ok ss∧H' p1=some (.lst (ss.map tV))∧ss.length ≤ i * 100000) ⟨Same.but s1,none,[],rfl,by rw [List.take_zero]; rfl,hp1,Nat.zero_le _⟩ (fun i σ H' _ h => (h.1.same n1).tup hq) ?_ ?_
  ·rintro i x σ H2 hxi ⟨sb,v3,ss,rfl,hf,hl2,hsl⟩
   obtain ⟨c,pc,hc,rfl,hv⟩:=hx.get hxi
   have s2:=sb.same n1
   have hi:i < cs.length:=(List.getElem?_eq_some_iff.mp hc).1
   obtain ⟨hz1,hz2⟩:=hsz c (List.mem_of_getElem? hc)
   walk_at "rd"
   refine ⟨⟨_,.of hl2⟩,c,pc,pz,ws,ys,rfl,s2.tup hv,hz1,hz2,s2 _ _ hpv,hw.mono s2,hwl,hws,fun s' hs' q2 H3 s3 hq2 => ?_,fun n hn' d H3 s3 hd => ?_⟩
   ·have hb:=oqZ hs' hws
    have hmul:i * 100000 ≤ 99 * 100000:=Nat.mul_le_mul_right _ (by omega)
    refine qq4.mpr ⟨_,_,s3 _ _ hl2,hq2,?_,?_⟩
    ·rw [List.length_map,List.length_map]
     exact Nat.le_trans (show ss.length + s'.length ≤ 10000000 by omega) (by decide)
    ·refine ⟨(sb.trans s3.but).trans lqt,_,ss ++ s',rfl,iq0 hc hf hs',by rw [aqk,List.map_append],?_⟩
     rw [List.length_append,Nat.add_mul]
     omega
   ·refine kE n ?_ d H3 (s2.trans s3) hd
    unfold fillM
    rw [kq8 hc hf hn']
  ·rintro σ H2 ⟨sb,v3,ss,rfl,hf,hl2,hsl⟩
   have s2:=sb.same n1
   rw [hxl,List.take_length] at hf
   walk_at "rd"
   refine ⟨cs,xs,p,q,pz,cl,ws,ys,rfl,s2.tup hp,s2.tup hq,hx.mono s2,hn,s2 _ _ hpv,hw.mono s2,hwl,fun ho H3 s3 => ?_,fun n ho d H3 s3 hd => ?_⟩
   ·refine ⟨_,.inl (.of (s3 _ _ hl2)),fun qw H4 s4 hqw => ⟨_,_,.inr (((s2.trans s3).trans s4).tup hp),rfl,by decide,fun pw H5 n5 s5 hpw => ?_⟩⟩
    refine kQ ss ?_ pw qw H5 (((s2.trans s3).trans s4).trans s5) (s5 _ _ hqw) hpw
    unfold fillM
    rw [hf,ho]
   ·refine kE n ?_ d H3 (s2.trans s3) hd
    unfold fillM
    rw [hf,ho]
theorem gqQ (g:G w K mg):FnOk P w K mg base CX0 7 g.bqy g.bqi ["_law_table_here","_law_name","_law_values_here","_law_way"] (gqT K):=by
 refine g.cqo.ok aqN (fun vs H Q E h => ?_) (fun cdv A outer s H vs Q E hr h => ?_)
 ·obtain ⟨l,lv,l0,pw,qw,T,ws,kk,t,bs,ys,rfl,_⟩:=h; rfl
 ·obtain ⟨l,lv,l0,pw,qw,T,ws,kk,t,bs,ys,rfl,hl,hT,hok,hTl,hTn,hTg,hkk,hG,hsm,hlv,hB,hpw,hqw,k⟩:=h
  refine ⟨_,(aqH (aqv (i:=4) aqN.nd rfl (Or.inr rfl) (aqj (rqF g) (hr.mono (by decide)) rfl g.rqd g.nqL.kp g.rqm .nil pass0 (aqa (pv 0) (aqa (pv 3) aqb))))
   (aqH (lqF (i:=5) (fx:=["_law_name","_law_table_here"]) (fr:=[1,0]) aqN.nd rfl rfl rfl rfl (by decide +kernel) rfl (by decide +kernel) rfl (by decide +kernel) rfl (.cons rfl rfl rfl rfl (.cons rfl rfl rfl rfl .nil)) rfl (cql rfl g.dq6 (aqa (aqs (aqt (K:=K) rfl) rfl g.bqa PySem.boot_len (aqa (pv 0) aqb)) aqb)) (fun _ _ _ => (iqZ (aqm aqT (aqo (aqf (K:=K) rfl) (aqo (aqf (K:=K) rfl) (pv 2) (pv 0) (fun _ _ => rfl)) aqc (fun _ _ => rfl)) (pv 1) (nomark _)))) (fun _ _ _ => (pv 0)))
   (aqh (aqI (PW.pt (kq1 (hqh (dqF (aqs dqJ rfl g.bqh aq0 (aqa (pv 4) (aqa (gqC (v:=.ty "tuple") rfl g.iqt hqG rfl) aqb))))) (hqY (aqm lqd (aqs (aqt (K:=K) rfl) rfl g.bqa PySem.boot_len (aqa (pv 4) aqb)) aqc (nomark _)))))
    (aqg (aqp hq4)) aqw)
   (aqh (aqI (aqm aqT (aqo (aqf (K:=K) rfl) (pv 4) aqc (fun _ _ => rfl)) (pv 1) (nomark _))
    (aqg (aqp (aqQ (iqX hr.units) (aqo (aqf (K:=K) rfl) (pv 4) aqc (fun _ _ => rfl)) (pv 2) (nomark _)))) aqw)
   (aqH (lqF (i:=6) (fx:=["_law_found","_law_table_here"]) (fr:=[4,0]) aqN.nd rfl rfl rfl rfl (by decide +kernel) rfl (by decide +kernel) rfl (by decide +kernel) rfl (.cons rfl rfl rfl rfl (.cons rfl rfl rfl rfl .nil)) rfl (cql rfl g.dq6 (aqa (aqs (aqt (K:=K) rfl) rfl g.bqa PySem.boot_len (aqa (pv 0) aqb)) aqb)) (fun _ _ _ => (iqZ (aqm aqT (aqo (aqf (K:=K) rfl) (aqo (aqf (K:=K) rfl) (pv 2) (pv 0) (fun _ _ => rfl)) aqc (fun _ _ => rfl)) (aqo (aqf (K:=K) rfl) (pv 1) aqc (fun _ _ => rfl)) (nomark _)))) (fun _ _ _ => (pv 0)))
   (aqh (aqI (PW.pt (kq1 (aqm lqd (aqs (aqt (K:=K) rfl) rfl g.bqa PySem.boot_len (aqa (pv 6) aqb)) aqc (nomark _)) (hqY (aqm (gqk hr.units) (aqj (fqA g) (hr.mono (by decide)) rfl g.eqi g.cqF.kp g.dq1 .nil pass0 (aqa (aqo (aqf (K:=K) rfl) (aqo (aqf (K:=K) rfl) (pv 0) (aqo (aqf (K:=K) rfl) (pv 6) aqc (fun _ _ => rfl)) (fun _ _ => rfl)) aqc (fun _ _ => rfl)) (aqa (aqo (aqf (K:=K) rfl) (pv 4) aqc (fun _ _ => rfl)) aqb))) (pv 3) (nomark _)))))
    (aqg (aqp hq4)) aqw)
   (aqH (aqv (i:=7) aqN.nd rfl (Or.inl rfl) (aqj (fqF g) (hr.mono (by decide)) rfl g.eqc g.cqH.kp g.eqa .nil pass0 (aqa (aqo (aqf (K:=K) rfl) (aqo (aqf (K:=K) rfl) (pv 0) (aqo (aqf (K:=K) rfl) (pv 6) aqc (fun _ _ => rfl)) (fun _ _ => rfl)) aqc (fun _ _ => rfl)) aqb)))
   (aqH (aqv (i:=8) aqN.nd rfl (Or.inl rfl) (aqj (fqF g) (hr.mono (by decide)) rfl g.eqc g.cqH.kp g.eqa .nil pass0 (aqa (aqo (aqf (K:=K) rfl) (aqo (aqf (K:=K) rfl) (pv 0) (aqo (aqf (K:=K) rfl) (pv 5) aqc (fun _ _ => rfl)) (fun _ _ => rfl)) aqc (fun _ _ => rfl)) aqb)))
   (aqg (aqp (pq1 (aqQ (rqv hr.unitsL) (pv 7) (pv 8) (nomark _)) (cqu (dqe (aqQ (iqX hr.units) (pv 7) (pv 8) (nomark _)) (cqu (aqQ lqz (aqo (aqf (K:=K) rfl) (pv 6) aqc (fun _ _ => rfl)) (aqo (aqf (K:=K) rfl) (pv 5) aqc (fun _ _ => rfl)) (nomark _)))))))))))))))),?_⟩
  walk_at "rd"
  have hwl:=hT.length
  have htT:=List.mem_of_getElem? hkk
  obtain ⟨t1,t2,t3,t4⟩:=hok t htT
  have tok:∀ c ∈ t.2.1,PcOk c:=fun c hc => (t2.2 c hc).1
  have gA:=kq5 hG tok t3
  have hfit:=oqg hG tok t3 t.2.2
  obtain ⟨sm1,sm2⟩:=uq3 hG tok hsm
  obtain ⟨ss,hss⟩:∃ ss,ss=stpsM t.2.1 bs:=⟨_,rfl⟩
  rw [<- hss] at gA hfit sm1 sm2 hqw
  have hs50:ss.length ≤ 50:=by omega
  have htf:t ∈ T.filter (fitR true t.2.2 ss):=List.mem_filter.mpr ⟨htT,hfit⟩
  obtain ⟨b0,L,hF⟩:∃ b0 L,T.filter (fitR true t.2.2 ss)=b0 :: L:=by
   cases h:T.filter (fitR true t.2.2 ss) with
   | nil => rw [h] at htf; cases htf
   | cons b L => exact ⟨b,L,rfl⟩
  obtain ⟨m,hm⟩:∃ m,m=mostM mrR b0 L:=⟨_,rfl⟩
  obtain ⟨pr,po,eT,hmf,hpr,hpo⟩:=nqW hF
  rw [<- hm] at eT hmf hpr hpo
  have hmT:m ∈ T:=by rw [eT]; simp
  obtain ⟨m1,m2,m3,m4⟩:=hok m hmT
  have hj:T[pr.length]?=some m:=by rw [eT,List.getElem?_append_right (Nat.le_refl _),Nat.sub_self]; rfl
  have mfit:fitsP m.2.1 m.2.2 true ss t.2.2=true:=hmf
  obtain ⟨_,me,ml,_,mdot⟩:=kqT mfit
  obtain ⟨gb1,gb2⟩:=oqA (cs:=m.2.1) (ss:=ss) (fun i c hc => jqr mfit hc) m3 ml (fun s hs => ⟨⟨(gA.sg s hs).1,sm2 s hs⟩,mdot s hs⟩) hs50
  refine ⟨fun σ H1 => Same H H1∧∃ (pf lf:Addr) (yf:List V),σ=[some (.ref l),some (tV t.1),some (.ref lv),some (.ref pw),some (.ref pf),none,none,none,none]∧H1 pf=some (.tup [tV m.1,.ref lf])∧H1 lf=some (.lst yf)∧BndV H1 lf (boundM m.2.1 ss) yf,?_,?_⟩
  ·exact ⟨l,pw,qw,T,ws,true,t.2.2,ss,rfl,hl,hT,fun t ht => (hok t ht).2.1,by omega,hpw,hqw,by omega,(fun s hs => by have:=sm2 s hs; omega),(fun h0 => by rw [hF] at h0; cases h0),fun b L' hF' pf lf yf H1 nl s1 h1 h2 h3 => by
    rw [hF] at hF'
    cases hF'
    rw [<- hm] at h1 h3
    exact ⟨s1,pf,lf,yf,rfl,h1,h2,h3⟩⟩
  rintro σ H1 ⟨s1,pf,lf,yf,rfl,hpf,hlf,hBf⟩
  have places:∀ {H2:Hp}{fv:St}{p2:Addr}{Q2:VK}{n:List Nat}{kx:Nat}{ta tb:TE},Same H H2->H2 p2=none->(∃ u:Rw,T[kx]?=some u∧u.1=n)->(∀ (x:V) (H':Hp) (R:VK),R (.ref l) H'->ta (some x :: fv) H' R)->(∀ (x:V) (H':Hp) (R:VK),Same H2 H'->R (tV n) H'->tb (some x :: fv) H' R)->(∀ H',Same H2 H'->H' p2=some (.lst [.int (kx:Int)])->Q2 (.ref p2) H')->CompI (Itr 0 ws.length) p2 fv (tTest (tOp rEq (tOp (rIx K) (tOp (rIx K) ta (tVar 0)) (tC (V.int 0))) tb)) (tVar 0) Q2 H2:=fun {H2 fv p2 Q2 n kx ta tb} s2 n2 hu hta htb hQ => by
   refine lqr (fun i => decide ((T.map (·.1))[i]?=some n)) (fun i => V.int (0 + (i:Int))) (aqu (by omega)) n2 (fun i hi H3 R s3 hR => ?_) (fun i hi hf H3 R s3 hR => ?_) (fun H3 s3 hl3 => ?_)
   ·obtain ⟨w,hw⟩:∃ w,ws[i]?=some w:=⟨_,List.getElem?_eq_getElem hi⟩
    obtain ⟨u,hu,a',p',rfl,ha',_⟩:=hT.get hw
    have s03:=s2.trans s3
    walk_at "rd"
    refine hta _ _ _ ?_
    walk_at "rd"
    refine ⟨_,_,.inl (.of (s03 _ _ hl)),by rw [Int.zero_add]; exact aqi hw,?_⟩
    walk_at "rd"
    refine ⟨_,_,.inr (.of (s03 _ _ ha')),aqi (j:=0) rfl,htb _ _ _ s3 (aqy.mpr ⟨_,rfl,?_⟩)⟩
    have e1:decide ((⟨u.1.toArray⟩:Str)=⟨n.toArray⟩)=decide ((T.map (·.1))[i]?=some n):=by
     rw [List.getElem?_map,hu,decide_eq_decide,dqT]
     exact ⟨fun z => by rw [<- z]; rfl,fun z => Option.some.inj z⟩
    rw [e1]
    exact hR H3 (Same.refl _)
   ·walk_at "rd"
    exact hR H3 (Same.refl _)
   ·obtain ⟨u,hu1,hu2⟩:=hu
    refine hQ H3 s3 ?_
    rw [hl3,hwl,show T.length=(T.map (·.1)).length by rw [List.length_map],kqs hTn (k:=kx) (by rw [List.getElem?_map,hu1,<- hu2]; rfl)]
    show some (HO.lst [V.int (0 + (kx:Int))])=_
    rw [Int.zero_add]
  walk_at "rd"
  refine ⟨fun σ H2 => Same H1 H2∧∃ lp:Addr,σ=[some (.ref l),some (tV t.1),some (.ref lv),some (.ref pw),some (.ref pf),some (.ref lp),none,none,none]∧H2 lp=some (.lst [.int (kk:Int)]),⟨_,.inl (.of (s1 _ _ hl)),by omega,by omega,fun p2 n2 => ?_⟩,?_⟩
  ·rw [Int.toNat_natCast]
   refine places s1 n2 ⟨t,hkk,rfl⟩ (fun x H' R h => ?_) (fun x H' R _ h => ?_) (fun H2 s2 h2 => ⟨s2,p2,rfl,h2⟩)
   ·exact ⟨_,rfl,h⟩
   ·exact ⟨_,rfl,h⟩
  rintro σ H2 ⟨s2,lp,rfl,hlp⟩
  have u2:=s1.trans s2
  have hpf2:=s2 _ _ hpf
  have kp:kindV (.ref pf) H2=some "tuple" := by simp only [kindV,hpf2]
  walk_at "rd"
  refine ⟨_,kp,ite2 (fun z => absurd z (by decide)) (fun _ => ⟨_,.inr (.of hpf2),ite2 (fun z => absurd rfl z) (fun _ => ⟨_,_,.inr (.of hpf2),aqi (j:=0) rfl,aqy.mpr ⟨_,rfl,?_⟩⟩)⟩)⟩
  refine ite2 (fun he => ⟨_,_,.inr (.of hpf2),aqi (j:=1) rfl,?_⟩) (fun hne => ?_)
  ·have hmt:m.1=t.1:=dqT.mp (of_decide_eq_true he)
   have hx:=oqv hTn hj hkk hmt
   rw [hx,hkk] at hj
   have emt:t=m:=Option.some.inj hj
   rw [<- emt,gA.bnd] at hBf
   have hnam:=hG.names
   have lay:SeqAt.shaped (bndD bs)=true:=(jqL (fun b hb => by
    have h9:b.1 ∈ gapsM t.2.1:=by rw [<- hnam]; exact List.mem_map_of_mem hb
    obtain ⟨c,hc,e⟩:=List.mem_map.mp h9
    rw [<- e]
    exact (t2.2 c (List.mem_filter.mp hc).1).2.2.2) hG.vl).shaped (by decide)
   refine ⟨bndD bs,bndD bs,.lst (s2 _ _ hlf) (hBf.mono s2).vls.isAll,.lst (u2 _ _ hlv) (hB.mono u2).vls.isAll,lay,lay,?_⟩
   rw [mqb]
   exact k H2 u2
  refine ⟨fun σ H3 => Same H2 H3∧∃ lo:Addr,σ=[some (.ref l),some (tV t.1),some (.ref lv),some (.ref pw),some (.ref pf),some (.ref lp),some (.ref lo),none,none]∧H3 lo=some (.lst [.int (pr.length:Int)]),⟨_,.inl (.of (u2 _ _ hl)),by omega,by omega,fun p3 n3 => ?_⟩,?_⟩
  ·rw [Int.toNat_natCast]
   refine places u2 n3 ⟨m,hj,rfl⟩ (fun x H' R h => ?_) (fun x H' R sx h => ?_) (fun H3 s3 h3 => ⟨s3,p3,rfl,h3⟩)
   ·exact ⟨_,rfl,h⟩
   ·walk_at "rd"
    exact ⟨_,_,.inr (.of (sx _ _ hpf2)),aqi (j:=0) rfl,h⟩
  rintro σ H3 ⟨s3,lo,rfl,hlo⟩
  have u3:=u2.trans s3
  obtain ⟨wj,hwj⟩:∃ w,ws[pr.length]?=some w:=⟨_,List.getElem?_eq_getElem (by rw [hwl]; exact (List.getElem?_eq_some_iff.mp hj).1)⟩
  obtain ⟨m',hm',am,pm,rfl,ham,hpm⟩:=hT.get hwj
  rw [hj] at hm'
  cases hm'
  obtain ⟨wk,hwk⟩:∃ w,ws[kk]?=some w:=⟨_,List.getElem?_eq_getElem (by rw [hwl]; exact (List.getElem?_eq_some_iff.mp hkk).1)⟩
  obtain ⟨t',ht',ak,pk,rfl,hak,hpk⟩:=hT.get hwk
  rw [hkk] at ht'
  cases ht'
  walk_at "rd"
  refine ⟨_,.inl (.of hlo),ite2 (fun z => absurd rfl z) (fun _ => ⟨_,_,.inl (.of hlo),aqi (j:=0) rfl,?_⟩)⟩
  walk_at "rd"
  refine ⟨_,_,.inl (.of (u3 _ _ hl)),aqi hwj,?_⟩
  walk_at "rd"
  refine ⟨_,_,.inr (.of (u3 _ _ ham)),aqi (j:=1) rfl,_,_,.inr (.of (s3 _ _ hpf2)),aqi (j:=1) rfl,?_⟩
  refine ⟨m.2.1,m.2.2,pm,lf,lf,boundM m.2.1 ss,yf,rfl,hpm.mono u3.toT,fun c hc => (m2.2 c hc).1,m3,by omega,gb1,hTg m hmT,(s2.trans s3) _ _ hlf,hBf.mono (s2.trans s3),fun pw' qw' H4 s4 h1 h2 => ?_⟩
  rw [gb2] at h2
  have wl:SeqAt.shaped (wyD true ss m.2.2)=true:=(oqK fun s hs => (gA.sg s hs).1.2).shaped (by decide)
  rw [<- me] at wl h1
  have u4:=u3.trans s4
  refine ⟨wyD true ss t.2.2,wyD true ss t.2.2,mqB h1 h2,mqB (u4 _ _ hpw) (u4 _ _ hqw),wl,wl,_,rfl,?_⟩
  rw [oqm]
  refine ite2 (fun z => by cases z) (fun _ => ?_)
  have hnn:m.1 ≠ t.1:=fun z => hne (decide_eq_true (by rw [z]))
  have hjk:kk ≠ pr.length:=fun z => hnn (by rw [z,hj] at hkk; rw [Option.some.inj hkk])
  have hw:=qqP eT hkk hjk (fun h => (hpr t h hfit).1) (fun h => hpo t h hfit)
  clear hpr hpo places
  refine ⟨fun σ H5 => Same H4 H5∧∃ (l1:Addr) (us:List V),σ=[some (.ref l),some (tV t.1),some (.ref lv),some (.ref pw),some (.ref pf),some (.ref lp),some (.ref lo),some (.ref l1),none]∧H5 l1=some (.lst us)∧IsAll H5 ((m.2.1.map worthL ++ [[6]]).map intsD) us,⟨_,_,.inl (.of (s4 _ _ hlo)),aqi (j:=0) rfl,?_⟩,?_⟩
  ·walk_at "rd"
   refine ⟨_,_,.inl (.of (u4 _ _ hl)),aqi hwj,?_⟩
   walk_at "rd"
   refine ⟨_,_,.inr (.of (u4 _ _ ham)),aqi (j:=1) rfl,m.2.1,m.2.2,pm,rfl,hpm.mono u4.toT,m2,fun l1 us H5 s5 h5 h6 => ⟨s5,l1,us,rfl,h5,h6⟩⟩
  rintro σ H5 ⟨s5,l1,us,rfl,hl1,hus⟩
  have u5:=u4.trans s5
  have lp5:=(s3.trans (s4.trans s5)) _ _ hlp
  walk_at "rd"
  refine ⟨fun σ H6 => Same H5 H6∧∃ (l2:Addr) (vs:List V),σ=[some (.ref l),some (tV t.1),some (.ref lv),some (.ref pw),some (.ref pf),some (.ref lp),some (.ref lo),some (.ref l1),some (.ref l2)]∧H6 l2=some (.lst vs)∧IsAll H6 ((t.2.1.map worthL ++ [[6]]).map intsD) vs,⟨_,_,.inl (.of lp5),aqi (j:=0) rfl,?_⟩,?_⟩
  ·walk_at "rd"
   refine ⟨_,_,.inl (.of (u5 _ _ hl)),aqi hwk,?_⟩
   walk_at "rd"
   refine ⟨_,_,.inr (.of (u5 _ _ hak)),aqi (j:=1) rfl,t.2.1,t.2.2,pk,rfl,hpk.mono u5.toT,t2,fun l2 vs H6 s6 h5 h6 => ⟨s6,l2,vs,rfl,h5,h6⟩⟩
  rintro σ H6 ⟨s6,l2,vs,rfl,hl2,hvs⟩
  have u6:=u5.trans s6
  walk_at "rd"
  refine ⟨l1,l2,_,_,us,vs,rfl,rfl,s6 _ _ hl1,hl2,hus.mono s6,hvs,?_⟩
  rw [mqA]
  rcases hw with hw | ⟨hw,he,hlt⟩
  ·rw [hw]
   exact ⟨_,rfl,ite2 (fun _ => k H6 u6) (fun z => absurd rfl z)⟩
  ·rw [hw]
   rw [<- he] at hvs
   refine ⟨_,rfl,ite2 (fun z => by cases z) (fun _ => ⟨_,_,.lst (s6 _ _ hl1) (hus.mono s6),.lst hl2 hvs,iqS _,iqS _,?_⟩)⟩
   rw [mq3]
   refine ⟨_,rfl,ite2 (fun _ => ⟨_,_,.inl (.of ((s4.trans (s5.trans s6)) _ _ hlo)),aqi (j:=0) rfl,_,_,.inl (.of (s6 _ _ lp5)),aqi (j:=0) rfl,?_⟩) (fun z => absurd rfl z)⟩
   walk_at "rd"
   rw [decide_eq_true (show (pr.length:Int) < (kk:Int) by omega)]
   exact k H6 u6
theorem qq0 (g:G w K mg):FnOk P w K mg base (CXN P w base) 8 g.mqf g.kqa ["table","name","values"] (qqO K g.cqa g.aqD):=by
 refine g.pqw.okn tqf (fun vs H Q E h => ?_) (fun cdv A outer s H vs Q E hr h => ?_)
 ·obtain ⟨l,lv,T,ws,n,wz,ys,rfl,_⟩:=h; rfl
 ·obtain ⟨l,lv,T,ws,n,wz,ys,rfl,hl,hT,hok,hlv,hV,hwl,hws,kN,k⟩:=h
  refine ⟨_,(aqg (aqp (aqj (nqy g) (hr.mono (by decide)) rfl g.mqy g.jqw.kp g.mqk .nil fqs (aqa (aqj (gqV g) (hr.mono (by decide)) rfl g.eqG g.cq8.kp g.fqe .nil fqs (aqa (pv 0) (aqa (pv 1) aqb))) (aqa (pv 2) aqb))))),?_⟩
  walk_at "rd"
  refine ⟨l,T,ws,n,rfl,hl,hT,fun t ht p H1 s1 hpt => ?_,fun h0 H1 s1 => kN h0 H1 s1⟩
  obtain ⟨q,xs,hp,hq,hx⟩:=hpt
  obtain ⟨k1,k2⟩:=k t ht
  have ot:=hok t (List.mem_of_find?_eq_some ht)
  have o90:=ot.1
  exact ⟨t.2.1,xs,p,q,lv,t.2.2,wz,ys,rfl,.of hp,.of hq,hx.all,by omega,(fun c hc => by have:=(ot.2 c hc).1.ends; exact ⟨by omega,by omega⟩),s1 _ _ hlv,hV.mono s1,hwl,hws,fun ss hss pw qw H2 s2 h1 h2 => k1 ss hss pw qw H2 (s1.trans s2) h1 h2,fun z hz d H2 s2 hd => k2 z hz d H2 (s1.trans s2) hd⟩
theorem dqj (g:G w K mg):FnOk P w K mg base CX0 9 g.eqk g.dqk ["_law_table_here","_law_name","_law_values_here"] (kqN K):=by
 refine g.bq0.ok bqd (fun vs H Q E h => ?_) (fun cdv A outer s H vs Q E hr h => ?_)
 ·obtain ⟨l,lv,T,ws,n,wz,ys,rfl,_⟩:=h; rfl
 ·obtain ⟨l,lv,T,ws,n,wz,ys,rfl,hl,hT,hok,hlv,hV,hwl,hws,kN,k⟩:=h
  refine ⟨_,(aqh (aqv (i:=3) bqd.nd rfl (Or.inl rfl) gq7)
   (aqh (aqv (i:=4) bqd.nd rfl (Or.inl rfl) aqr)
   (aqh (sqO (i:=5) (sqg (i:=3) bqd.nd rfl rfl (oqz (qq0 g) (hr.mono (by decide)) rfl g.rqi g.pqw.kp g.rql (aqa (pv 0) (aqa (pv 1) (aqa (pv 2) aqb))) (fun _ _ h => h))) rfl rfl rfl g.jqE g.mqN rfl g.gqb g.kqL bqd.nd rfl rfl (fun _ => (aqg (aqv (i:=4) bqd.nd rfl (Or.inl rfl) aqr))) (fun _ => (aqg (aqv (i:=4) bqd.nd rfl (Or.inl rfl) (aqn (aqx (K:=K)) (qqX (K:=K) rfl (pv 5) rfl) aqr)))))
   (aqg (aqp (aqR (aqa (pv 3) (aqa (pv 4) aqb)))))))),?_⟩
  have eL:Str.ofString " lacks" = ⟨[32,108,97,99,107,115].toArray⟩:=by decide +kernel
  rw [eL]
  walk_at "rd"
  refine ⟨l,lv,T,ws,n,wz,ys,rfl,hl,hT,hok,hlv,hV,hwl,hws,fun h0 H1 s1 => ⟨_,rfl,.inl ⟨g.eqT,fun a ha => ⟨by decide,fun p H2 n2 s2 e2 => kN h0 p H2 ((s1.trans (aqK ha)).trans s2) e2⟩⟩⟩,fun t ht => ⟨fun ss hss pw qw H1 s1 h1 h2 => ⟨by decide,fun p H2 n2 s2 e2 => (k t ht).1 ss hss p pw qw H2 (s1.trans s2) (s2 _ _ h1) (s2 _ _ h2) e2⟩,fun z hz d H1 s1 hd => ⟨_,rfl,.inr ⟨g.eqB,g.dqY,fun a ha => ?_⟩⟩⟩⟩
  obtain ⟨k1,k2⟩:=(k t ht).2 z hz
  refine ⟨a,_,d,_,_,rfl,aqk,(by rw [aqq (aql hd ha)]; exact hd),g.eqK,(by rw [List.lookup_cons,beq_self_eq_true]),cqq.mpr ⟨aqu (by rw [bqr,bqr]; simp only [List.length_cons,List.length_nil]; omega),?_⟩⟩
  rw [dqr]
  exact ⟨by decide,fun p H2 n2 s2 e2 => k2 p H2 ((s1.trans (aqK ha)).trans s2) e2⟩
theorem jqs (g:G w K mg):FnOk P w K mg base CX0 10 g.dqq g.cqE ["_law_table_here","_law_k","_law_cell"] (kqd K):=by
 refine g.fqd.ok aqX (fun vs H Q E h => ?_) (fun cdv A outer s H vs Q E hr h => ?_)
 ·obtain ⟨l,T,ws,kk,c,rfl,_⟩:=h; rfl
 ·obtain ⟨l,T,ws,kk,c,rfl,hl,hT,hok,hTl,hTn,hTg,hkk,k⟩:=h
  refine ⟨_,(aqh (mqH (aqo (aqf (K:=K) rfl) (pv 0) (pv 1) (fun _ _ => rfl)) (eqP (n:=2) (K:=K) rfl rfl (aqS (aqE (i:=3) aqX.nd rfl (Or.inl rfl)) (aqS (aqE (i:=4) aqX.nd rfl (Or.inl rfl)) eqp))))
   (aqH (aqv (i:=5) aqX.nd rfl (Or.inl rfl) (aqj (iqC g) (hr.mono (by decide)) rfl g.gqa g.eql.kp g.gqt .nil pass0 (aqa (pv 4) (aqa (aqC (aqa (aqn aqA (pv 2) aqc) (aqa (aqn aqA (pv 2) aqc) (aqa (aqn (aqx (K:=K)) (aqn aqA (pv 2) aqc) aqc) aqb)))) aqb))))
   (aqH (aqI (PW.pt (hqg (aqm aqT (aqn aqJ (pv 2) aqc) aqc (nomark _)) (eqE (aqm (gqk hr.units) (pv 5) (aqC aqb) (nomark _)))))
    (aqh (aqv (i:=6) aqX.nd rfl (Or.inl rfl) (aqn aqJ (aqn aqA (pv 2) aqc) (aqs (aqt (K:=K) rfl) rfl g.bqa PySem.boot_len (aqa (pv 5) aqb))))
   (aqh (aqv (i:=7) aqX.nd rfl (Or.inl rfl) (aqj (dqj g) (hr.mono (by decide)) rfl g.cq7 g.bq0.kp g.cq5 .nil pass0 (aqa (pv 0) (aqa (pv 3) (aqa (aqn (aqx (K:=K)) (cqd (fqW (K:=K) rfl) (pv 5) cqW (bqD (pv 6))) (cqd (fqW (K:=K) rfl) (pv 5) (bqD (aqn (aqx (K:=K)) (pv 6) aqc)) cqW)) aqb)))))
   (aqg (aqp (aqQ (iqX hr.units) (pv 7) (aqR (aqa gq7 (aqa (aqn (aqx (K:=K)) (aqo (aqf (K:=K) rfl) (aqo (aqf (K:=K) rfl) (pv 5) (pv 6) (fun _ _ => rfl)) aqc (fun _ _ => rfl)) aqr) aqb))) (nomark _)))))) aqw)
   (aqh (aqI (aqm aqT (aqn aqJ (pv 2) aqc) aqc (nomark _))
    (aqg (aqp (aqQ (iqX hr.units) (aqj (dqj g) (hr.mono (by decide)) rfl g.cq7 g.bq0.kp g.cq5 .nil pass0 (aqa (pv 0) (aqa (pv 3) (aqa (aqn (aqx (K:=K)) (pv 5) (aqC (aqa (aqR (aqa aqr (aqa aqc aqb))) aqb))) aqb)))) (aqR (aqa gq7 (aqa aqr aqb))) (nomark _)))) aqw)
   (aqH (aqv (i:=8) aqX.nd rfl (Or.inl rfl) (aqj (fqA g) (hr.mono (by decide)) rfl g.eqi g.cqF.kp g.dq1 .nil pass0 (aqa (pv 4) (aqa (pv 5) aqb))))
   (aqH (aqv (i:=9) aqX.nd rfl (Or.inl rfl) (jqh (K:=K) rfl (pv 5) cqW cqW (bqD (nqv jqd aqc))))
   (aqh (aqI (PW.pt (kq1 (aqm (gqk hr.units) (aqj (dqj g) (hr.mono (by decide)) rfl g.cq7 g.bq0.kp g.cq5 .nil pass0 (aqa (pv 0) (aqa (pv 3) (aqa (pv 9) aqb)))) (aqR (aqa (pv 8) (aqa aqr aqb))) (nomark _)) (hqY (aqm (gqk hr.units) (pv 9) (jqh (K:=K) rfl (pv 5) cqW cqW (bqD (nqv jqd aqc))) (nomark _)))))
    (aqg (aqp hq4)) aqw)
   (aqg (aqp (aqj (gqQ g) (hr.mono (by decide)) rfl g.eqC g.cqo.kp g.eqy .nil pass0 (aqa (pv 0) (aqa (pv 3) (aqa (pv 5) (aqa (pv 8) aqb)))))))))))))),?_⟩
  have eL:Str.ofString " lacks" = ⟨[32,108,97,99,107,115].toArray⟩:=by decide +kernel
  rw [eL]
  walk_at "rd"
  have hwl:=hT.length
  obtain ⟨t,hkk⟩:∃ t,T[kk]?=some t:=⟨_,List.getElem?_eq_getElem hkk⟩
  obtain ⟨w,hw⟩:∃ w,ws[kk]?=some w:=⟨_,List.getElem?_eq_getElem (by rw [hwl]; exact (List.getElem?_eq_some_iff.mp hkk).1)⟩
  obtain ⟨t',ht',ak,pk,rfl,hak,hpk⟩:=hT.get hw
  rw [hkk] at ht'
  cases ht'
  have htT:=List.mem_of_getElem? hkk
  obtain ⟨t1,t2,t3,t4⟩:=hok t htT
  obtain ⟨g1,g2,g3⟩:=hTg t htT
  have tok:∀ c ∈ t.2.1,PcOk c:=fun c hc => (t2.2 c hc).1
  refine ⟨_,_,.inl (.of hl),aqi hw,?_⟩
  walk_at "rd"
  refine ⟨ak,_,rfl,.of hak,rfl,_,_,rfl,_,_,rfl,rfl,fun σ H1 => Same H H1∧∃ (bs:List (List Nat × Vl)) (lv:Addr) (ys:List V),σ=[some (.ref l),some (.int (kk:Int)),some (.int c),some (tV t.1),some (.ref pk),some (.ref lv),none,none,none,none]∧GvA t.2.1 bs∧(∀ b ∈ bs,SmV b.2)∧H1 lv=some (.lst ys)∧BndV H1 lv bs ys,⟨⟨by decide,by decide⟩,⟨by decide,by decide⟩,⟨by decide,by decide⟩,by decide,fun p1 H1 n1 s1 e1 => ?_⟩,?_⟩
  ·exact ⟨t.2.1,t.2.2,pk,p1,[c / 3,c / 5,c / 11 + 1],rfl,hpk.mono s1.toT,tok,by omega,.of e1,Nat.succ_pos _,(show 3 ≤ 100 by decide),fun bs lv ys H2 hG hsm nl _ s2 h2 hB => ⟨s1.trans s2,bs,lv,ys,rfl,hG,hsm,h2,hB⟩⟩
  rintro σ H1 ⟨s1,bs,lv,ys,rfl,hG,hsm,hlv,hB⟩
  have hnam:=hG.names
  have hbl:bs.length ≤ 5:=by
   have h1:=jq0 t.2.1
   rw [<- hnam,List.length_map] at h1
   omega
  have hyl:=hB.length
  have hbok:=hG.vl
  have hbsg:∀ b ∈ bs,∀ x ∈ b.1,isSg x=true:=fun b hb => by
   have h9:b.1 ∈ gapsM t.2.1:=by rw [<- hnam]; exact List.mem_map_of_mem hb
   obtain ⟨c,hc,e⟩:=List.mem_map.mp h9
   rw [<- e]
   exact (t2.2 c (List.mem_filter.mp hc).1).2.2.2
  have hfind:=qqe hTn hkk
  have hpo:∀ t ∈ T,PcsOk t.2.1:=fun t ht => (hok t ht).2.1
  walk_at "rd"
  have laid:∀ z:List Nat,(∀ x ∈ z,isSg x=true)->SeqAt.shaped (.tuple [.none,st z])=true:=fun z hz => (LayAt.tup (n:=0) fun d hd => by
   simp only [List.mem_cons,List.not_mem_nil,or_false] at hd
   rcases hd with rfl | rfl
   ·exact ⟨rfl,Nat.le_refl _⟩
   ·exact LayAt.st hz).shaped (by decide)
  have fault:∀ {H3:Hp}{p q:Addr}{z:List Nat}{Q2:VK},(∀ x ∈ z,isSg x=true)->H3 p=some (.tup [.non,tV z])->H3 q=some (.tup [.non,tV z])->Q2 (.bl true) H3->rEqD (.ref p) (.ref q) H3 Q2:=fun {H3 p q z Q2} hz hp hq h => by
   refine ⟨.tuple [.none,st z],.tuple [.none,st z],.tup hp (.cons .non (.cons (.str _) .nil)),.tup hq (.cons .non (.cons (.str _) .nil)),laid z hz,laid z hz,?_⟩
   rw [dqA (ds:=[.none,st z]) (fun d hd => by
    simp only [List.mem_cons,List.not_mem_nil,or_false] at hd
    rcases hd with rfl | rfl
    ·rfl
    ·exact eq1 z)]
   exact h
  have lsg:∀ x ∈ [32,108,97,99,107,115],isSg x=true:=by decide
  refine ⟨fun σ H2 => Same H1 H2∧σ=[some (.ref l),some (.int (kk:Int)),some (.int c),some (tV t.1),some (.ref pk),some (.ref lv),none,none,none,none],⟨by decide,ite2 (fun _ => ⟨by decide,fun p2 H2 n2 s2 e2 => ?_⟩) (fun _ => ⟨Same.refl _,rfl⟩)⟩,?_⟩
  ·have hl2:=s2 _ _ hlv
   have hB2:=hB.mono s2
   refine ⟨bndD bs,.list [],.lst hl2 hB2.vls.isAll,.lst e2 .nil,(jqL hbsg hbok).shaped (by decide),by decide +kernel,_,rfl,?_⟩
   have enil:PyData.eqv (bndD bs) (.list [])=bs.isEmpty:=by
    unfold bndD
    rw [jqD,List.isEmpty_map,List.isEmpty_map]
   rw [enil]
   refine ite2 (fun hne => ?_) (fun _ => ⟨s2,rfl⟩)
   have hpos:0 < bs.length:=by
    cases bs with
    | nil => cases hne
    | cons a b => simp
   obtain ⟨j,hj,ej⟩:∃ j:Nat,j < ys.length∧c / 5 % (ys.length:Int)=(j:Int):=by
    have h1:=Int.emod_nonneg (c / 5) (show (ys.length:Int) ≠ 0 by omega)
    have h2:=Int.emod_lt_of_pos (c / 5) (show 0 < (ys.length:Int) by omega)
    exact ⟨(c / 5 % (ys.length:Int)).toNat,by omega,by omega⟩
   refine ⟨⟨by decide,by decide⟩,_,.inl (.of hl2),by omega,?_⟩
   rw [ej]
   refine ⟨_,.of hl2,fun p3 H3 n3 s3 e3 => ⟨_,.of (s3 _ _ hl2),fun p4 H4 n4 s4 e4 => ?_⟩⟩
   rw [mqO] at e3
   rw [show ((j:Int) + 1)=((j + 1:Nat):Int) by omega,hqB] at e4
   refine .inl ⟨_,_,s4 _ _ e3,e4,aqu (by rw [List.length_take,List.length_drop]; omega),fun p5 H5 n5 s5 e5 => ?_⟩
   have u5:=((s2.trans s3).trans s4).trans s5
   have u05:=s1.trans u5
   obtain ⟨bj,hbj⟩:∃ b,bs[j]?=some b:=⟨_,List.getElem?_eq_getElem (by omega)⟩
   obtain ⟨yj,hyj⟩:∃ y,ys[j]?=some y:=⟨_,List.getElem?_eq_getElem (by omega)⟩
   obtain ⟨b',pj,wj,hb',rfl,hpj,_⟩:=hB.get hyj
   rw [hbj] at hb'
   cases hb'
   have hbm:=List.mem_of_getElem? hbj
   have hV:VlsV H5 ((bs.take j ++ bs.drop (j + 1)).map fun b => (b.1,vlD b.2)) (ys.take j ++ ys.drop (j + 1)):=by
    rw [List.map_append,List.map_take,List.map_drop]
    exact VlsV.append ((hB.mono u5).vls.drop _) ((hB.mono u5).vls.take _)
   have hfl:=mq2 hG tok g1 hbj
   refine ⟨l,p5,T,ws,t.1,_,_,rfl,u05 _ _ hl,hT.mono u05.toT,hpo,e5,hV,by rw [List.length_map,List.length_append,List.length_take,List.length_drop]; omega,fun w hw' => ?_,fun h0 => (by rw [hfind] at h0; cases h0),fun t' ht' => ?_⟩
   ·obtain ⟨b,hb,rfl⟩:=List.mem_map.mp hw'
    refine (hbok b ?_).small
    rcases List.mem_append.mp hb with z | z
    ·exact List.mem_of_mem_take z
    ·exact List.mem_of_mem_drop z
   ·rw [hfind] at ht'
    cases ht'
    refine ⟨fun ss hss => (by rw [hfl] at hss; cases hss),fun z hz => ?_⟩
    rw [hfl] at hz
    cases hz
    have hb8:bj.1.length ≤ 8:=g3 _ (by rw [<- hnam]; exact List.mem_map_of_mem hbm)
    refine ⟨by omega,fun p6 H6 s6 e6 => ⟨_,_,.inl (.of ((u5.trans s6) _ _ hlv)),aqi hyj,?_⟩⟩
    walk_at "rd"
    refine ⟨_,_,.inr (.of ((u5.trans s6) _ _ hpj)),aqi (j:=0) rfl,cqq.mpr ⟨aqu (by rw [bqr,bqr]; simp only [List.length_cons,List.length_nil]; omega),?_⟩⟩
    rw [dqr]
    refine ⟨by decide,fun p7 H7 n7 s7 e7 => fault (fun x hx => ?_) (s7 _ _ e6) e7 (k H7 ((u05.trans s6).trans s7))⟩
    rcases List.mem_append.mp hx with z | z
    ·exact hbsg bj hbm x z
    ·exact lsg x z
  rintro σ H2 ⟨s2,rfl⟩
  have u2:=s1.trans s2
  have hlv2:=s2 _ _ hlv
  walk_at "rd"
  refine ⟨by decide,ite2 (fun _ => ⟨by decide,fun p3 H3 n3 s3 e3 => ⟨by decide,fun p4 H4 n4 s4 e4 => ?_⟩⟩) (fun _ => ?_)⟩
  ·refine .inl ⟨_,_,(s3.trans s4) _ _ hlv2,e4,aqu (by simp only [List.length_cons,List.length_nil]; omega),fun p5 H5 n5 s5 e5 => ?_⟩
   have u5:=((s2.trans s3).trans s4).trans s5
   have u05:=s1.trans u5
   have hfl:=pq4 (n:=[]) (d:=.int 5) hG tok t3 g1 g2
   have hV:VlsV H5 ((bs.map fun b => (b.1,vlD b.2)) ++ [([],.int 5)]) (ys ++ [.ref p3]):=VlsV.append (.cons (n:=[]) ((s4.trans s5) _ _ e3) (.int 5) .nil) (hB.mono u5).vls
   refine ⟨l,p5,T,ws,t.1,_,_,rfl,u05 _ _ hl,hT.mono u05.toT,hpo,e5,hV,by rw [List.length_append,List.length_map]; simp only [List.length_cons,List.length_nil]; omega,fun w hw' => ?_,fun h0 => (by rw [hfind] at h0; cases h0),fun t' ht' => ?_⟩
   ·rcases List.mem_append.mp hw' with z | z
    ·obtain ⟨b,hb,rfl⟩:=List.mem_map.mp z
     exact (hbok b hb).small
    ·rw [List.mem_singleton.mp z]; decide +kernel
   ·rw [hfind] at ht'
    cases ht'
    refine ⟨fun ss hss => (by rw [hfl] at hss; cases hss),fun z hz => ?_⟩
    rw [hfl] at hz
    cases hz
    exact ⟨by decide,fun p6 H6 s6 e6 => ⟨by decide,fun p7 H7 n7 s7 e7 => fault lsg (s7 _ _ e6) e7 (k H7 ((u05.trans s6).trans s7))⟩⟩
  have gA:=kq5 hG tok t3
  refine ⟨fun σ H3 => Same H2 H3∧∃ pw qw:Addr,σ=[some (.ref l),some (.int (kk:Int)),some (.int c),some (tV t.1),some (.ref pk),some (.ref lv),none,none,some (.ref pw),none]∧H3 pw=some (.tup [.bl true,.ref qw,.bl t.2.2])∧H3 qw=some (.tup ((stpsM t.2.1 bs).map tV)),?_,?_⟩
  ·exact ⟨t.2.1,t.2.2,pk,lv,lv,bs,ys,rfl,hpk.mono u2.toT,tok,t3,by omega,hG,g1,hlv2,hB.mono s2,fun pw qw H3 s3 h1 h2 => ⟨s3,pw,qw,rfl,h1,h2⟩⟩
  rintro σ H3 ⟨s3,pw,qw,rfl,hpw,hqw⟩
  have u3:=s2.trans s3
  have hpr:=pqP (l:=ys) (by omega)
  walk_at "rd"
  refine ⟨fun σ H4 => Same H3 H4∧∃ lh:Addr,σ=[some (.ref l),some (.int (kk:Int)),some (.int c),some (tV t.1),some (.ref pk),some (.ref lv),none,none,some (.ref pw),some (.ref lh)]∧H4 lh=some (.lst ys.reverse),⟨lv,_,rfl,.of (s3 _ _ hlv2),by decide,?_⟩,?_⟩
  ·rw [hpr]
   exact ⟨aqu (by rw [List.length_reverse]; omega),fun p4 n4 => ⟨aqK n4,p4,rfl,aqk⟩⟩
  rintro σ H4 ⟨s4,lh,rfl,hlh⟩
  have u4:=u3.trans s4
  have u04:=s1.trans u4
  have hfl:=qqp hG tok t3 g1
  have hV:∀ {H5:Hp},Same H1 H5->VlsV H5 (bs.reverse.map fun b => (b.1,vlD b.2)) ys.reverse:=fun {H5} s5 => by
   rw [List.map_reverse]
   exact (hB.mono s5).vls.rev
  walk_at "rd"
  refine ⟨l,lh,T,ws,t.1,_,_,rfl,u04 _ _ hl,hT.mono u04.toT,hpo,hlh,hV u4,by rw [List.length_map,List.length_reverse]; omega,fun w hw' => ?_,fun h0 => (by rw [hfind] at h0; cases h0),fun t' ht' => ?_⟩
  ·obtain ⟨b,hb,rfl⟩:=List.mem_map.mp hw'
   exact (hbok b (List.mem_reverse.mp hb)).small
  rw [hfind] at ht'
  cases ht'
  refine ⟨fun ss hss p5 pm qm H5 s5 h1 h2 h3 => ?_,fun z hz => (by rw [hfl] at hz; cases hz)⟩
  rw [hfl] at hss
  cases hss
  refine ⟨by decide,fun p6 H6 n6 s6 e6 => ?_⟩
  have wl:SeqAt.shaped (.tuple [wyD true (stpsM t.2.1 bs) t.2.2,st []])=true:=(LayAt.tup (n:=2) fun d hd => by
   simp only [List.mem_cons,List.not_mem_nil,or_false] at hd
   rcases hd with rfl | rfl
   ·exact oqK fun s hs => (gA.sg s hs).1.2
   ·exact (LayAt.st (fun x hx => by cases hx)).le (by decide)).shaped (by decide)
  have u6:=(s4.trans s5).trans s6
  refine ⟨_,_,.tup (s6 _ _ h3) (.cons (mqB (s6 _ _ h2) (s6 _ _ h1)) (.cons (.str _) .nil)),.tup e6 (.cons (mqB (u6 _ _ hpw) (u6 _ _ hqw)) (.cons (.str _) .nil)),wl,wl,_,rfl,?_⟩
  rw [dqA (ds:=[wyD true (stpsM t.2.1 bs) t.2.2,st []]) (fun d hd => by
   simp only [List.mem_cons,List.not_mem_nil,or_false] at hd
   rcases hd with rfl | rfl
   ·exact oqm _ _ _
   ·exact eq1 [])]
  refine ite2 (fun z => by cases z) (fun _ => ?_)
  have u16:=u3.trans u6
  have u06:=s1.trans u16
  refine ⟨lv,_,rfl,.of (u16 _ _ hlv),by decide,?_⟩
  rw [hpr]
  refine ⟨aqu (by rw [List.length_reverse]; omega),fun p7 n7 => ?_⟩
  have s7:Same H6 (upd H6 p7 (.lst ys.reverse)):=aqK n7
  have e7:(upd H6 p7 (.lst ys.reverse)) p7=some (.lst ys.reverse):=aqk
  generalize upd H6 p7 (.lst ys.reverse)=H7 at s7 e7
  have lay:SeqAt.shaped (bndD bs.reverse)=true:=(jqL (fun b hb => hbsg b (List.mem_reverse.mp hb)) (fun b hb => hbok b (List.mem_reverse.mp hb))).shaped (by decide)
  refine ⟨bndD bs.reverse,bndD bs.reverse,.lst (((s5.trans s6).trans s7) _ _ hlh) (hV (u16.trans s7)).isAll,.lst e7 (hV (u16.trans s7)).isAll,lay,lay,_,rfl,?_⟩
  rw [mqb]
  refine ite2 (fun z => by cases z) (fun _ => ?_)
  have u07:=u06.trans s7
  exact ⟨l,lv,lv,pw,qw,T,ws,kk,t,bs,ys,rfl,u07 _ _ hl,hT.mono u07.toT,hok,hTl,hTn,fun t ht => (hTg t ht).1,hkk,hG,hsm,(u16.trans s7) _ _ hlv,hB.mono (u16.trans s7),(u6.trans s7) _ _ hpw,(u6.trans s7) _ _ hqw,fun H8 s8 => k H8 (u07.trans s8)⟩
theorem uqi (g:G w K mg):FnOk P w K mg base CX0 11 g.qqd g.kqU ["_law_script"] (mqz K):=by
 refine g.tq9.ok gqv (fun vs H Q E h => ?_) (fun cdv A outer s H vs Q E hr h => ?_)
 ·obtain ⟨a,ns,rfl,_⟩:=h; rfl
 ·obtain ⟨a,ns,rfl,hS,hn,k⟩:=h
  refine ⟨_,(aqh (aqv (i:=1) gqv.nd rfl (Or.inl rfl) (aqn aqJ (aqj (bqf g) (hr.mono (by decide)) rfl g.aq5 g.aqY.kp g.aq8 .nil pass0 (aqa (pv 0) (aqa aqc aqb))) aqc))
   (aqH (aqv (i:=2) gqv.nd rfl (Or.inl rfl) (aqj (fq9 g) (hr.mono (by decide)) rfl g.eq2 g.dqf.kp g.eqN .nil pass0 (aqa (aqn aqA (aqj (bqf g) (hr.mono (by decide)) rfl g.aq5 g.aqY.kp g.aq8 .nil pass0 (aqa (pv 0) (aqa aqc aqb))) aqc) (aqa aqc aqb))))
   (aqH (aqv (i:=3) gqv.nd rfl (Or.inl rfl) (aqj (jq4 g) (hr.mono (by decide)) rfl g.hqf g.eqR.kp g.gqX .nil pass0 (aqa (pv 0) (aqa (aqj (fq9 g) (hr.mono (by decide)) rfl g.eq2 g.dqf.kp g.eqN .nil pass0 (aqa (aqj (bqf g) (hr.mono (by decide)) rfl g.aq5 g.aqY.kp g.aq8 .nil pass0 (aqa (pv 0) (aqa aqc aqb))) (aqa aqc aqb))) (aqa (pv 2) (aqa aqc (aqa (pv 1) aqb)))))))
   (aqh (aqv (i:=4) gqv.nd rfl (Or.inl rfl) (bqT (jqj (K:=K) rfl) rfl g.mqu lqA (aqa (pv 3) aqb)))
   (aqH (cqv PassesOwn.never rfl (dq2 (K:=K) rfl (aqC (aqa (aqo (aqf (K:=K) rfl) (pv 2) aqc (fun _ _ => rfl)) (aqa aqr (aqa aqr aqb))))) (aqE (i:=5) gqv.nd rfl (Or.inl rfl))
   (aqg (aqI (aqm (gqk hr.units) (aqj (dqj g) (hr.mono (by decide)) rfl g.cq7 g.bq0.kp g.cq5 .nil pass0 (aqa (pv 3) (aqa (pv 5) (aqa (aqC aqb) aqb)))) (aqR (aqa gq7 (aqa aqr aqb))) (nomark _))
    (aqg (aqp hq4)) aqw)))
   (aqH (aqv (i:=6) gqv.nd rfl (Or.inl rfl) (aqn (aqx (K:=K)) (aqn (aqx (K:=K)) (aqC (aqa (aqj (bqf g) (hr.mono (by decide)) rfl g.aq5 g.aqY.kp g.aq8 .nil pass0 (aqa (pv 0) (aqa aqc aqb))) aqb)) (cqd (fqW (K:=K) rfl) (pv 0) (bqD aqc) (bqD (aqn (aqx (K:=K)) aqc (pv 1))))) (cqd (fqW (K:=K) rfl) (pv 0) (bqD aqc) (bqD aqc))))
   (aqh (cqv PassesOwn.never rfl (mqd (K:=K) rfl rfl g.dq3 (aqa (pv 6) aqb)) (eqP (n:=2) (K:=K) rfl rfl (aqS (aqE (i:=7) gqv.nd rfl (Or.inl rfl)) (aqS (aqE (i:=8) gqv.nd rfl (Or.inl rfl)) eqp)))
   (aqg (aqI (PW.pt (hqg (aqm oq7 (pv 1) aqc (nomark _)) (eqE (hqh (dqF (aqj (jqs g) (hr.mono (by decide)) rfl g.hqe g.fqd.kp g.gq8 .nil pass0 (aqa (pv 3) (aqa (aqn aqJ (aqn (aqx (K:=K)) (pv 8) (pv 7)) (pv 1)) (aqa (aqn aqA (pv 8) aqc) aqb)))))))))
    (aqg (aqp hq4)) aqw)))
   (aqg (aqp (aqQ (iqX hr.units) (pv 3) (pv 4) (nomark _))))))))))),?_⟩
  have eA:Str.ofString "A" = ⟨[65].toArray⟩:=by decide +kernel
  rw [eA]
  walk_at "rd"
  refine ⟨a,ns,1,rfl,hS,?_⟩
  obtain ⟨m,hm,em⟩:∃ m:Nat,m ≤ 16∧ns.getD 1 0 % 17=(m:Int):=⟨(ns.getD 1 0 % 17).toNat,by omega,by omega⟩
  walk_at "rd"
  rw [em]
  refine ⟨by decide,fun σ H1 => Same H H1∧∃ (lb:List (List Nat)) (pl:Addr),σ=[some (.ref a),some (.int (m:Int)),some (.ref pl),none,none,none,none,none,none]∧H1 pl=some (.lst (lb.map tV))∧lb.length=17∧(∀ n ∈ lb,0 < n.length∧n.all isSma=true)∧lb.Nodup,⟨a,ns,1,rfl,hS,?_⟩,?_⟩
  ·walk_at "rd"
   exact ⟨⟨by decide,by decide⟩,_,17,rfl,by decide,fun nm pn H1 h1 h2 h3 s1 h4 => ⟨s1,nm,pn,rfl,h4,h1,fun n hn' => ⟨(h2 n hn').1,(h2 n hn').2.2⟩,h3⟩⟩
  rintro σ H1 ⟨s1,lb,pl,rfl,hpl,hll,hls,hln⟩
  walk_at "rd"
  refine ⟨fun σ H2 => Same H H2∧∃ (T:List Rw) (ws:List V) (l:Addr) (nm:List (List Nat)),σ=[some (.ref a),some (.int (m:Int)),some (.ref pl),some (.ref l),none,none,none,none,none]∧H2 pl=some (.lst (lb.map tV))∧H2 l=some (.lst ws)∧TbV H2 T ws∧TabOk T∧T.length=m∧nm.length=6∧(∀ n ∈ nm,0 < n.length∧n.length ≤ 8)∧nm.Nodup∧(∀ t ∈ T,NmP nm t.2.1)∧T.map (·.1)=lb.take m,⟨a,ns,0,rfl,s1.seq hS,_,6,rfl,by decide,fun nm pn H2 h1 h2 h3 s2 h4 => ⟨a,pn,pl,ns,nm,lb,m,rfl,(s1.trans s2).seq hS,h4,h1,fun n hn' => mqx (h2 n hn').2.2,s2 _ _ hpl,by omega,fun n hn' => mqx (hls n hn').2,hm,fun T ws l H3 nl s3 hl hT hok hTl hTn hTb => ⟨(s1.trans s2).trans s3,T,ws,l,nm,rfl,(s2.trans s3) _ _ hpl,hl,hT,hok,hTl,h1,fun n hn' => ⟨(h2 n hn').1,(h2 n hn').2.1⟩,h3,hTn,hTb⟩⟩⟩,?_⟩
  clear hpl
  rintro σ H2 ⟨s2,T,ws,l,nm,rfl,hpl,hl,hT,hok,hTl,hnl,hn8,hnd,hTn,hTb⟩
  have hwl:=hT.length
  have hTN:(T.map (·.1)).Nodup:=by rw [hTb]; exact (List.take_sublist m lb).nodup hln
  have hTg:∀ t ∈ T,(gapsM t.2.1).Nodup∧[] ∉ gapsM t.2.1∧∀ n ∈ gapsM t.2.1,n.length ≤ 8:=fun t ht => by
   obtain ⟨g1,g2⟩:=jqa hnd (cs:=t.2.1) 0 (fun i c hc hs => by rw [Nat.zero_add]; exact hTn t ht i c hc hs)
   refine ⟨g1,fun z => ?_,fun n hn' => ?_⟩
   ·obtain ⟨j,_,hj⟩:=g2 _ z
    have:=(hn8 _ (List.mem_of_getElem? hj)).1
    exact absurd this (by decide)
   ·obtain ⟨j,_,hj⟩:=g2 _ hn'
    exact (hn8 _ (List.mem_of_getElem? hj)).2
  have hpo:∀ t ∈ T,PcsOk t.2.1:=fun t ht => (hok t ht).2.1
  obtain ⟨n16,h16⟩:∃ n,lb[16]?=some n:=⟨_,List.getElem?_eq_getElem (by omega)⟩
  have no:∀ n:List Nat,n ∈ [n16,[],[65]]->T.find? (fun t => decide (t.1=n))=none:=fun n hn' => by
   rw [List.find?_eq_none]
   intro t ht hd
   have e:t.1=n:=of_decide_eq_true hd
   have h1:n ∈ lb.take m:=by rw [<- hTb,<- e]; exact List.mem_map_of_mem ht
   have h2:=hls n (List.mem_of_mem_take h1)
   simp only [List.mem_cons,List.not_mem_nil,or_false] at hn'
   rcases hn' with rfl | rfl | rfl
   ·obtain ⟨i,hi,ei⟩:=List.getElem_of_mem h1
    rw [List.length_take] at hi
    have h3:lb[i]?=some n:=by rw [<- List.getElem?_take_of_lt (show i < m by omega)]; exact List.getElem?_eq_some_iff.mpr ⟨by rw [List.length_take]; exact hi,ei⟩
    obtain ⟨a1,a2⟩:=List.getElem?_eq_some_iff.mp h3
    obtain ⟨b1,b2⟩:=List.getElem?_eq_some_iff.mp h16
    rw [List.nodup_iff_pairwise_ne,List.pairwise_iff_getElem] at hln
    exact hln i 16 a1 b1 (by omega) (a2.trans b2.symm)
   ·exact absurd h2.1 (by decide)
   ·exact absurd h2.2 (by decide)
  walk_at "rd"
  refine ⟨_,.inl (.of hl),fun lk H3 n3 s3 hlk => ?_⟩
  have u3:=s2.trans s3
  have eN:Str.ofString "name" = ⟨[110,97,109,101].toArray⟩:=by decide +kernel
  have lN:SeqAt.shaped (.tuple [.none,st [110,97,109,101]])=true:=by decide +kernel
  have qN:PyData.eqv (.tuple [.none,st [110,97,109,101]]) (.tuple [.none,st [110,97,109,101]])=true:=by decide +kernel
  refine ⟨fun σ H4 => Same H3 H4∧∃ v5:Option V,σ=[some (.ref a),some (.int (m:Int)),some (.ref pl),some (.ref l),some (.ref lk),v5,none,none,none],⟨_,_,.inl (.of (s3 _ _ hpl)),aqi (j:=16) (by rw [List.getElem?_map,h16]; rfl),by decide,fun p4 H4 n4 s4 e4 => ⟨⟨_,.of e4⟩,?_⟩⟩,?_⟩
  ·refine gqw (xs:=[n16,[],[65]].map tV) (fun i σ H' => Same H4 H'∧∃ v5:Option V,σ=[some (.ref a),some (.int (m:Int)),some (.ref pl),some (.ref l),some (.ref lk),v5,none,none,none]) ⟨Same.refl _,none,rfl⟩ (fun i σ H' _ h => .of (h.1 _ _ e4)) ?_ (fun σ H' h => ⟨s4.trans h.1,h.2⟩)
   rintro i v σ H5 hv ⟨s5,v5,rfl⟩
   obtain ⟨n,hn',rfl⟩:=List.mem_map.mp (List.mem_of_getElem? hv)
   have u5:=(s3.trans s4).trans s5
   walk_at "rd"
   refine ⟨by decide,fun p6 H6 n6 s6 e6 => ⟨l,p6,T,ws,n,[],[],rfl,(u5.trans s6) _ _ hl,hT.mono (u5.trans s6).toT,hpo,e6,.nil,Nat.zero_le _,(fun w hw => by cases hw),fun _ p7 H7 s7 e7 => ⟨by decide,fun p8 H8 n8 s8 e8 => ?_⟩,fun t ht => (by rw [no n hn'] at ht; cases ht)⟩⟩
   rw [eN] at e7 e8
   refine ⟨_,_,.tup (s8 _ _ e7) (.cons .non (.cons (.str _) .nil)),.tup e8 (.cons .non (.cons (.str _) .nil)),lN,lN,_,rfl,?_⟩
   have q2:=qN
   unfold st at q2
   rw [q2]
   exact ite2 (fun z => by cases z) (fun _ => ⟨(s5.trans s6).trans (s7.trans s8),_,rfl⟩)
  rintro σ H4 ⟨s4,v5,rfl⟩
  have u4:=u3.trans s4
  walk_at "rd"
  refine ⟨fun σ H5 => Same H4 H5∧∃ (is:List Int) (pc:Addr),σ=[some (.ref a),some (.int (m:Int)),some (.ref pl),some (.ref l),some (.ref lk),v5,some (.ref pc),none,none]∧H5 pc=some (.lst (is.map V.int)),⟨a,ns,2,rfl,u4.seq hS,by decide,fun p5 H5 n5 s5 e5 => ⟨_,(u4.trans s5).seq hS,fun p6 H6 n6 s6 e6 => ?_⟩⟩,?_⟩
  ·rw [mqs] at e6
   have c1:=lq6 ns (some 3) (some (3 + (m:Int)))
   have c2:=lq6 ns (some 20) (some 60)
   refine .inl ⟨_,_,s6 _ _ e5,e6,aqu (by rw [List.length_map]; simp only [List.length_cons,List.length_nil]; omega),fun p7 H7 n7 s7 e7 => ⟨_,(((u4.trans s5).trans s6).trans s7).seq hS,fun p8 H8 n8 s8 e8 => ?_⟩⟩
   rw [mqs] at e8
   refine .inl ⟨_,_,s8 _ _ e7,e8,aqu (by rw [List.length_append,List.length_map,List.length_map]; simp only [List.length_cons,List.length_nil]; omega),fun p9 H9 n9 s9 e9 => ⟨((s5.trans s6).trans s7).trans (s8.trans s9),[ns.getD 2 0] ++ cutA ns (some 3) (some (3 + (m:Int))) ++ cutA ns (some 20) (some 60),p9,rfl,by rw [e9,List.map_append,List.map_append]; rfl⟩⟩
  rintro σ H5 ⟨s5,is,pc,rfl,hpc⟩
  have w5:=(s3.trans s4).trans s5
  have hl5:=w5 _ _ hl
  have hT5:=hT.mono w5.toT
  walk_at "rd"
  refine ⟨pc,_,rfl,.of hpc,?_⟩
  refine jqp (xs:=is.map V.int) (fun i σ H' => Same H5 H'∧∃ v7 v8:Option V,σ=[some (.ref a),some (.int (m:Int)),some (.ref pl),some (.ref l),some (.ref lk),v5,some (.ref pc),v7,v8]) ⟨Same.refl _,_,_,rfl⟩ (fun i σ H' _ h => .of (h.1 _ _ hpc)) ?_ ?_
  rotate_left
  ·rintro σ H6 ⟨s6,v7,v8,rfl⟩
   walk_at "rd"
   refine ⟨.list (T.map rwD),.list (T.map rwD),.lst (s6 _ _ hl5) (hT5.mono s6.toT).isAll,.lst (((s4.trans s5).trans s6) _ _ hlk) (hT5.mono s6.toT).isAll,oq9 hok,oq9 hok,?_⟩
   rw [tqB]
   exact k H6
  rintro i v σ H6 T1 hv ⟨s6,v7,v8,rfl⟩ hT1
  obtain ⟨c,_,rfl⟩:=List.mem_map.mp (List.mem_of_getElem? hv)
  have sT:=s6.trans (aqK (o:=.tup [.int (i:Int),.int c]) hT1)
  walk_at "rd"
  refine ⟨T1,_,rfl,.of aqk,rfl,_,_,rfl,_,_,rfl,rfl,?_⟩
  generalize upd H6 T1 (.tup [.int (i:Int),.int c])=H7 at sT
  walk_at "rd"
  refine ite2 (fun h0 => ⟨by omega,⟨by decide,by decide⟩,?_⟩) (fun _ => ⟨sT,_,_,⟨rfl,rfl⟩⟩)
  obtain ⟨j,hj,ej⟩:∃ j:Nat,j < m∧(c + (i:Int)) % (m:Int)=(j:Int):=by
   have h1:=Int.emod_nonneg (c + (i:Int)) (show (m:Int) ≠ 0 by omega)
   have h2:=Int.emod_lt_of_pos (c + (i:Int)) (show 0 < (m:Int) by omega)
   exact ⟨((c + (i:Int)) % (m:Int)).toNat,by omega,by omega⟩
  rw [ej]
  exact ⟨l,T,ws,j,_,rfl,sT _ _ hl5,hT5.mono sT.toT,hok,by omega,hTN,hTg,by omega,fun H8 s8 => ⟨_,rfl,ite2 (fun z => by cases z) (fun _ => ⟨sT.trans s8,_,_,⟨rfl,rfl⟩⟩)⟩⟩
end
theorem aqd {a b:Bool} (h:(a && b)=true):a=true:=by cases a; cases h; rfl
theorem aqe {a b:Bool} (h:(a && b)=true):b=true:=by cases a; cases h; exact h
theorem usl0 {us:List Value} (h:us.length=0):us=[]:=List.length_eq_zero_iff.mp h
local macro_rules | `(tactic| walk_at "b0") => `(tactic| exact fun _ _ _ _ _ _ us hl => by obtain e:=usl0 hl; subst e; rfl)
theorem usl1 {us:List Value} (h:us.length=1):∃ x0,us=[x0]:=List.length_eq_one_iff.mp h
local macro_rules | `(tactic| walk_at "b1") => `(tactic| exact fun _ _ _ _ _ _ us hl => by obtain ⟨x0,e⟩:=usl1 hl; subst e; rfl)
theorem usl2 {us:List Value} (h:us.length=2):∃ x0 x1,us=[x0,x1]:=by
 cases us with
 | nil => cases h
 | cons x0 l =>
  obtain ⟨x1,rfl⟩:=usl1 (Nat.succ.inj h)
  exact ⟨_,_,rfl⟩
local macro_rules | `(tactic| walk_at "b2") => `(tactic| exact fun _ _ _ _ _ _ us hl => by obtain ⟨x0,x1,e⟩:=usl2 hl; subst e; rfl)
theorem usl3 {us:List Value} (h:us.length=3):∃ x0 x1 x2,us=[x0,x1,x2]:=by
 cases us with
 | nil => cases h
 | cons x0 l =>
  obtain ⟨x1,x2,rfl⟩:=usl2 (Nat.succ.inj h)
  exact ⟨_,_,_,rfl⟩
local macro_rules | `(tactic| walk_at "b3") => `(tactic| exact fun _ _ _ _ _ _ us hl => by obtain ⟨x0,x1,x2,e⟩:=usl3 hl; subst e; rfl)
theorem usl4 {us:List Value} (h:us.length=4):∃ x0 x1 x2 x3,us=[x0,x1,x2,x3]:=by
 cases us with
 | nil => cases h
 | cons x0 l =>
  obtain ⟨x1,x2,x3,rfl⟩:=usl3 (Nat.succ.inj h)
  exact ⟨_,_,_,_,rfl⟩
local macro_rules | `(tactic| walk_at "b4") => `(tactic| exact fun _ _ _ _ _ _ us hl => by obtain ⟨x0,x1,x2,x3,e⟩:=usl4 hl; subst e; rfl)
theorem usl5 {us:List Value} (h:us.length=5):∃ x0 x1 x2 x3 x4,us=[x0,x1,x2,x3,x4]:=by
 cases us with
 | nil => cases h
 | cons x0 l =>
  obtain ⟨x1,x2,x3,x4,rfl⟩:=usl4 (Nat.succ.inj h)
  exact ⟨_,_,_,_,_,rfl⟩
local macro_rules | `(tactic| walk_at "b5") => `(tactic| exact fun _ _ _ _ _ _ us hl => by obtain ⟨x0,x1,x2,x3,x4,e⟩:=usl5 hl; subst e; rfl)
theorem uqJ {l:PySem.W.OpenLaw}{w:World}{K:W.Frag}{h:Heap}{mg:Str->Option Value}{fa:Addr} (X:K.In h) (Gl:h.Ns mainGlobals mg) (hfa:mg "law" = some (.ref fa))
  {eC_NoName:Addr} (en_NoName:W.nsIn K mainGlobals "NoName" = some (some (.ref eC_NoName)))
  {eC_NoValue:Addr} (en_NoValue:W.nsIn K mainGlobals "NoValue" = some (some (.ref eC_NoValue)))
  (a1:W.nsIn K mainGlobals "made_of" = some (some (.ref f1))) (l1:K.lookup f1=some ⟨oc1,od1,.func (W.fnOf "made_of" "made_of" (defArgs dqD) (defBody dqD) (defScope dqD) .none kV1 dc1 pm1 an1 cd1 ct1),sl1⟩)
  (a2:W.nsIn K mainGlobals "is_whole_number" = some (some (.ref f2))) (l2:K.lookup f2=some ⟨oc2,od2,.func (W.fnOf "is_whole_number" "is_whole_number" (defArgs aqM) (defBody aqM) (defScope aqM) .none kV2 dc2 pm2 an2 cd2 ct2),sl2⟩)
  (a3:W.findIn K (.ref eC_NoValue) "__init__" = some (some (.ref f3))) (i3:W.isFn K (.ref f3)=true) (l3:K.lookup f3=some ⟨oc3,od3,.func (W.fnOf "__init__" "NoValue.__init__" (defArgs aqG) (defBody aqG) (defScope aqG) .none kV3 dc3 pm3 an3 cd3 ct3),sl3⟩)
  (a4:W.nsIn K mainGlobals "is_dot" = some (some (.ref f4))) (l4:K.lookup f4=some ⟨oc4,od4,.func (W.fnOf "is_dot" "is_dot" (defArgs fqg) (defBody fqg) (defScope fqg) .none kV4 dc4 pm4 an4 cd4 ct4),sl4⟩)
  (a5:W.nsIn K mainGlobals "is_gap" = some (some (.ref f5))) (l5:K.lookup f5=some ⟨oc5,od5,.func (W.fnOf "is_gap" "is_gap" (defArgs fqq) (defBody fqq) (defScope fqq) .none kV5 dc5 pm5 an5 cd5 ct5),sl5⟩)
  (a6:W.nsIn K mainGlobals "name_of" = some (some (.ref f6))) (l6:K.lookup f6=some ⟨oc6,od6,.func (W.fnOf "name_of" "name_of" (defArgs dqS) (defBody dqS) (defScope dqS) .none kV6 dc6 pm6 an6 cd6 ct6),sl6⟩)
  (a7:W.nsIn K mainGlobals "head_of" = some (some (.ref f7))) (l7:K.lookup f7=some ⟨oc7,od7,.func (W.fnOf "head_of" "head_of" (defArgs dqH) (defBody dqH) (defScope dqH) .none kV7 dc7 pm7 an7 cd7 ct7),sl7⟩)
  (a8:W.nsIn K mainGlobals "tail_of" = some (some (.ref f8))) (l8:K.lookup f8=some ⟨oc8,od8,.func (W.fnOf "tail_of" "tail_of" (defArgs dqV) (defBody dqV) (defScope dqV) .none kV8 dc8 pm8 an8 cd8 ct8),sl8⟩)
  (a9:W.nsIn K mainGlobals "has_rest" = some (some (.ref f9))) (l9:K.lookup f9=some ⟨oc9,od9,.func (W.fnOf "has_rest" "has_rest" (defArgs cqT) (defBody cqT) (defScope cqT) .none kV9 dc9 pm9 an9 cd9 ct9),sl9⟩)
  (a10:W.nsIn K mainGlobals "pattern_named" = some (some (.ref f10))) (l10:K.lookup f10=some ⟨oc10,od10,.func (W.fnOf "pattern_named" "pattern_named" (defArgs aq1) (defBody aq1) (defScope aq1) .none kV10 dc10 pm10 an10 cd10 ct10),sl10⟩)
  (a11:W.nsIn K mainGlobals "_law_cell_at" = some (some (.ref f11))) (l11:K.lookup f11=some ⟨oc11,od11,.func (W.fnOf "_law_cell_at" "_law_cell_at" (defArgs aq7) (defBody aq7) (defScope aq7) .none kV11 dc11 pm11 an11 cd11 ct11),sl11⟩)
  (a12:W.nsIn K mainGlobals "_law_names" = some (some (.ref f12))) (l12:K.lookup f12=some ⟨oc12,od12,.func (W.fnOf "_law_names" "_law_names" (defArgs bqF) (defBody bqF) (defScope bqF) .none kV12 dc12 pm12 an12 cd12 ct12),sl12⟩)
  (a13:W.nsIn K mainGlobals "_law_signs" = some (some (.ref f13))) (l13:K.lookup f13=some ⟨oc13,od13,.func (W.fnOf "_law_signs" "_law_signs" (defArgs bqK) (defBody bqK) (defScope bqK) .none kV13 dc13 pm13 an13 cd13 ct13),sl13⟩)
  (a14:W.nsIn K mainGlobals "_law_gaps" = some (some (.ref f14))) (l14:K.lookup f14=some ⟨oc14,od14,.func (W.fnOf "_law_gaps" "_law_gaps" (defArgs bq4) (defBody bq4) (defScope bq4) .none kV14 dc14 pm14 an14 cd14 ct14),sl14⟩)
  (a15:W.nsIn K mainGlobals "_law_name_of" = some (some (.ref f15))) (l15:K.lookup f15=some ⟨oc15,od15,.func (W.fnOf "_law_name_of" "_law_name_of" (defArgs aq9) (defBody aq9) (defScope aq9) .none kV15 dc15 pm15 an15 cd15 ct15),sl15⟩)
  (a16:W.nsIn K mainGlobals "_law_filled" = some (some (.ref f16))) (l16:K.lookup f16=some ⟨oc16,od16,.func (W.fnOf "_law_filled" "_law_filled" (defArgs bql) (defBody bql) (defScope bql) .none kV16 dc16 pm16 an16 cd16 ct16),sl16⟩)
  (a17:W.nsIn K mainGlobals "_law_worths" = some (some (.ref f17))) (l17:K.lookup f17=some ⟨oc17,od17,.func (W.fnOf "_law_worths" "_law_worths" (defArgs bqq) (defBody bqq) (defScope bqq) .none kV17 dc17 pm17 an17 cd17 ct17),sl17⟩)
  (a18:W.nsIn K mainGlobals "is_text" = some (some (.ref f18))) (l18:K.lookup f18=some ⟨oc18,od18,.func (W.fnOf "is_text" "is_text" (defArgs dqG) (defBody dqG) (defScope dqG) .none kV18 dc18 pm18 an18 cd18 ct18),sl18⟩)
  (a19:W.nsIn K mainGlobals "names_of" = some (some (.ref f19))) (l19:K.lookup f19=some ⟨oc19,od19,.func (W.fnOf "names_of" "names_of" (defArgs cqV) (defBody cqV) (defScope cqV) .none kV19 dc19 pm19 an19 cd19 ct19),sl19⟩)
  (a20:W.nsIn K mainGlobals "spread" = some (some (.ref f20))) (l20:K.lookup f20=some ⟨oc20,od20,.func (W.fnOf "spread" "spread" (defArgs fqf) (defBody fqf) (defScope fqf) .none kV20 dc20 pm20 an20 cd20 ct20),sl20⟩)
  (a21:W.nsIn K mainGlobals "fits_part" = some (some (.ref f21))) (l21:K.lookup f21=some ⟨oc21,od21,.func (W.fnOf "fits_part" "fits_part" (defArgs bqZ) (defBody bqZ) (defScope bqZ) .none kV21 dc21 pm21 an21 cd21 ct21),sl21⟩)
  (a22:W.nsIn K mainGlobals "is_number" = some (some (.ref f22))) (l22:K.lookup f22=some ⟨oc22,od22,.func (W.fnOf "is_number" "is_number" (defArgs bq2) (defBody bq2) (defScope bq2) .none kV22 dc22 pm22 an22 cd22 ct22),sl22⟩)
  (a23:W.nsIn K mainGlobals "is_word" = some (some (.ref f23))) (l23:K.lookup f23=some ⟨oc23,od23,.func (W.fnOf "is_word" "is_word" (defArgs dqI) (defBody dqI) (defScope dqI) .none kV23 dc23 pm23 an23 cd23 ct23),sl23⟩)
  (a24:W.nsIn K mainGlobals "bound_value" = some (some (.ref f24))) (l24:K.lookup f24=some ⟨oc24,od24,.func (W.fnOf "bound_value" "bound_value" (defArgs bqj) (defBody bqj) (defScope bqj) .none kV24 dc24 pm24 an24 cd24 ct24),sl24⟩)
  (a25:W.nsIn K mainGlobals "steps_of_value" = some (some (.ref f25))) (l25:K.lookup f25=some ⟨oc25,od25,.func (W.fnOf "steps_of_value" "steps_of_value" (defArgs aqW) (defBody aqW) (defScope aqW) .none kV25 dc25 pm25 an25 cd25 ct25),sl25⟩)
  (a26:W.nsIn K mainGlobals "worth_of" = some (some (.ref f26))) (l26:K.lookup f26=some ⟨oc26,od26,.func (W.fnOf "worth_of" "worth_of" (defArgs cqS) (defBody cqS) (defScope cqS) .none kV26 dc26 pm26 an26 cd26 ct26),sl26⟩)
  (a27:W.nsIn K mainGlobals "_law_text" = some (some (.ref f27))) (l27:K.lookup f27=some ⟨oc27,od27,.func (W.fnOf "_law_text" "_law_text" (defArgs bq3) (defBody bq3) (defScope bq3) .none kV27 dc27 pm27 an27 cd27 ct27),sl27⟩)
  (a28:W.nsIn K mainGlobals "is_filled_text" = some (some (.ref f28))) (l28:K.lookup f28=some ⟨oc28,od28,.func (W.fnOf "is_filled_text" "is_filled_text" (defArgs aqU) (defBody aqU) (defScope aqU) .none kV28 dc28 pm28 an28 cd28 ct28),sl28⟩)
  (a29:W.nsIn K mainGlobals "step_fits" = some (some (.ref f29))) (l29:K.lookup f29=some ⟨oc29,od29,.func (W.fnOf "step_fits" "step_fits" (defArgs bq1) (defBody bq1) (defScope bq1) .none kV29 dc29 pm29 an29 cd29 ct29),sl29⟩)
  (a30:W.nsIn K mainGlobals "refuse_others" = some (some (.ref f30))) (l30:K.lookup f30=some ⟨oc30,od30,.func (W.fnOf "refuse_others" "refuse_others" (defArgs aqZ) (defBody aqZ) (defScope aqZ) .none kV30 dc30 pm30 an30 cd30 ct30),sl30⟩)
  (a31:W.nsIn K mainGlobals "worth_more" = some (some (.ref f31))) (l31:K.lookup f31=some ⟨oc31,od31,.func (W.fnOf "worth_more" "worth_more" (defArgs bqG) (defBody bqG) (defScope bqG) .none kV31 dc31 pm31 an31 cd31 ct31),sl31⟩)
  (a32:W.nsIn K mainGlobals "_law_step" = some (some (.ref f32))) (l32:K.lookup f32=some ⟨oc32,od32,.func (W.fnOf "_law_step" "_law_step" (defArgs bq5) (defBody bq5) (defScope bq5) .none kV32 dc32 pm32 an32 cd32 ct32),sl32⟩)
  (a33:W.nsIn K mainGlobals "fits" = some (some (.ref f33))) (l33:K.lookup f33=some ⟨oc33,od33,.func (W.fnOf "fits" "fits" (defArgs jqf) (defBody jqf) (defScope jqf) .none kV33 dc33 pm33 an33 cd33 ct33),sl33⟩)
  (a34:W.nsIn K mainGlobals "can_be_step" = some (some (.ref f34))) (l34:K.lookup f34=some ⟨oc34,od34,.func (W.fnOf "can_be_step" "can_be_step" (defArgs bqm) (defBody bqm) (defScope bqm) .none kV34 dc34 pm34 an34 cd34 ct34),sl34⟩)
  (a35:W.nsIn K mainGlobals "worth_most" = some (some (.ref f35))) (l35:K.lookup f35=some ⟨oc35,od35,.func (W.fnOf "worth_most" "worth_most" (defArgs bqI) (defBody bqI) (defScope bqI) .none kV35 dc35 pm35 an35 cd35 ct35),sl35⟩)
  (a36:W.nsIn K mainGlobals "_law_piece" = some (some (.ref f36))) (l36:K.lookup f36=some ⟨oc36,od36,.func (W.fnOf "_law_piece" "_law_piece" (defArgs bqL) (defBody bqL) (defScope bqL) .none kV36 dc36 pm36 an36 cd36 ct36),sl36⟩)
  (a37:W.nsIn K mainGlobals "_law_value" = some (some (.ref f37))) (l37:K.lookup f37=some ⟨oc37,od37,.func (W.fnOf "_law_value" "_law_value" (defArgs bqH) (defBody bqH) (defScope bqH) .none kV37 dc37 pm37 an37 cd37 ct37),sl37⟩)
  (a38:W.nsIn K mainGlobals "bound" = some (some (.ref f38))) (l38:K.lookup f38=some ⟨oc38,od38,.func (W.fnOf "bound" "bound" (defArgs gqE) (defBody gqE) (defScope gqE) .none kV38 dc38 pm38 an38 cd38 ct38),sl38⟩)
  (a39:W.nsIn K mainGlobals "is_value" = some (some (.ref f39))) (l39:K.lookup f39=some ⟨oc39,od39,.func (W.fnOf "is_value" "is_value" (defArgs cqU) (defBody cqU) (defScope cqU) .none kV39 dc39 pm39 an39 cd39 ct39),sl39⟩)
  (a40:W.nsIn K mainGlobals "_law_small" = some (some (.ref f40))) (l40:K.lookup f40=some ⟨oc40,od40,.func (W.fnOf "_law_small" "_law_small" (defArgs bqN) (defBody bqN) (defScope bqN) .none kV40 dc40 pm40 an40 cd40 ct40),sl40⟩)
  (a41:W.nsIn K mainGlobals "_law_values" = some (some (.ref f41))) (l41:K.lookup f41=some ⟨oc41,od41,.func (W.fnOf "_law_values" "_law_values" (defArgs bqk) (defBody bqk) (defScope bqk) .none kV41 dc41 pm41 an41 cd41 ct41),sl41⟩)
  (a42:W.nsIn K mainGlobals "filled_steps" = some (some (.ref f42))) (l42:K.lookup f42=some ⟨oc42,od42,.func (W.fnOf "filled_steps" "filled_steps" (defArgs aq6) (defBody aq6) (defScope aq6) .none kV42 dc42 pm42 an42 cd42 ct42),sl42⟩)
  (a43:W.nsIn K mainGlobals "lead" = some (some (.ref f43))) (l43:K.lookup f43=some ⟨oc43,od43,.func (W.fnOf "lead" "lead" (defArgs jqn) (defBody jqn) (defScope jqn) .none kV43 dc43 pm43 an43 cd43 ct43),sl43⟩)
  (a44:W.nsIn K mainGlobals "_law_table" = some (some (.ref f44))) (l44:K.lookup f44=some ⟨oc44,od44,.func (W.fnOf "_law_table" "_law_table" (defArgs bqJ) (defBody bqJ) (defScope bqJ) .none kV44 dc44 pm44 an44 cd44 ct44),sl44⟩)
  (a45:W.nsIn K mainGlobals "filled" = some (some (.ref f45))) (l45:K.lookup f45=some ⟨oc45,od45,.func (W.fnOf "filled" "filled" (defArgs fqo) (defBody fqo) (defScope fqo) .none kV45 dc45 pm45 an45 cd45 ct45),sl45⟩)
  (a46:W.nsIn K mainGlobals "_law_led_right" = some (some (.ref f46))) (l46:K.lookup f46=some ⟨oc46,od46,.func (W.fnOf "_law_led_right" "_law_led_right" (defArgs aqV) (defBody aqV) (defScope aqV) .none kV46 dc46 pm46 an46 cd46 ct46),sl46⟩)
  (a47:W.nsIn K mainGlobals "made" = some (some (.ref f47))) (l47:K.lookup f47=some ⟨oc47,od47,.func (W.fnOf "made" "made" (defArgs iq8) (defBody iq8) (defScope iq8) .none kV47 dc47 pm47 an47 cd47 ct47),sl47⟩)
  (a48:W.nsIn K mainGlobals "_law_told" = some (some (.ref f48))) (l48:K.lookup f48=some ⟨oc48,od48,.func (W.fnOf "_law_told" "_law_told" (defArgs bq6) (defBody bq6) (defScope bq6) .none kV48 dc48 pm48 an48 cd48 ct48),sl48⟩)
  (a49:W.nsIn K mainGlobals "_law_asked" = some (some (.ref f49))) (l49:K.lookup f49=some ⟨oc49,od49,.func (W.fnOf "_law_asked" "_law_asked" (defArgs bqM) (defBody bqM) (defScope bqM) .none kV49 dc49 pm49 an49 cd49 ct49),sl49⟩)
  (a50:W.nsIn K mainGlobals "law" = some (some (.ref f50))) (l50:K.lookup f50=some ⟨oc50,od50,.func (W.fnOf "law" "law" (defArgs mqT) (defBody mqT) (defScope mqT) .none kV50 dc50 pm50 an50 cd50 ct50),sl50⟩)
  {qa_WORTH_OF_WORDS:Addr} (e_WORTH_OF_WORDS:W.nsIn K mainGlobals "WORTH_OF_WORDS" = some (some (.ref qa_WORTH_OF_WORDS)))
  (yl_WORTH_OF_WORDS:PyProof.Rows.KTD.tabLook PyProof.Rows.KTD.flatLooks (fun a => K.lookup a) qa_WORTH_OF_WORDS cqn=true) (yh_WORTH_OF_WORDS:PyProof.Rows.KTD.hashesOf (fun a => K.lookup a) qa_WORTH_OF_WORDS=cqn.map fun p => hashStr w p.1)
  {hqH:Tok} (e_SIGNS:W.nsIn K mainGlobals "SIGNS" = some (some (.str (Str.ofString " !\"#$&'()*+,-./0123456789:;<=>?@ABCDEFGHIJKLMNOPQRSTUVWXYZ[\\]^_`abcdefghijklmnopqrstuvwxyz{|}~") hqH)))
  {bqg:Tok} (e_SMALL_LETTERS:W.nsIn K mainGlobals "SMALL_LETTERS" = some (some (.str (Str.ofString "abcdefghijklmnopqrstuvwxyz") bqg)))
  {eqO:Tok} (e_FIGURES:W.nsIn K mainGlobals "FIGURES" = some (some (.str (Str.ofString "0123456789") eqO)))
  {fqS:Tok} (e_ROOTED:W.nsIn K mainGlobals "ROOTED" = some (some (.int 0 fqS)))
  {iqg:Tok} (e_STEPS:W.nsIn K mainGlobals "STEPS" = some (some (.int 1 iqg)))
  {lql:Tok} (e_ENDS:W.nsIn K mainGlobals "ENDS" = some (some (.int 2 lql)))
  {kq3:Tok} (e_STAY:W.nsIn K mainGlobals "STAY" = some (some (.str (Str.ofString ".") kq3)))
  {t_UP:Tok} (e_UP:W.nsIn K mainGlobals "UP" = some (some (.str (Str.ofString "..") t_UP)))
  {gqn:Tok} (e_PIECES:W.nsIn K mainGlobals "PIECES" = some (some (.int 0 gqn)))
  {fqP:Tok} (e_CLOSES:W.nsIn K mainGlobals "CLOSES" = some (some (.int 1 fqP)))
  {aq4:Tok} (e_LONGEST_NUMBER:W.nsIn K mainGlobals "LONGEST_NUMBER" = some (some (.int 60 aq4)))
  {bqt:Tok} (e_LONGEST_WORD:W.nsIn K mainGlobals "LONGEST_WORD" = some (some (.int 60 bqt)))
  (z_all:W.nsIn K mainGlobals "all" = some none)
  (z_isinstance:W.nsIn K mainGlobals "isinstance" = some none)
  (z_bool:W.nsIn K mainGlobals "bool" = some none)
  (z_int:W.nsIn K mainGlobals "int" = some none)
  (z_len:W.nsIn K mainGlobals "len" = some none)
  (z_range:W.nsIn K mainGlobals "range" = some none)
  (z_tuple:W.nsIn K mainGlobals "tuple" = some none)
  (z_str:W.nsIn K mainGlobals "str" = some none)
  (z_dict:W.nsIn K mainGlobals "dict" = some none)
  (z_list:W.nsIn K mainGlobals "list" = some none)
  (z_zip:W.nsIn K mainGlobals "zip" = some none)
  (z_enumerate:W.nsIn K mainGlobals "enumerate" = some none)
  (ex_NoName:W.excIn K eC_NoName vErr vNew=true)
  (ew1_NoName:W.typeIn K (.ref eC_NoName)=some (.type "type"))
  (ew2_NoName:W.subIn K (.ref eC_NoName) (.type "BaseException")=some true)
  (ew3_NoName:(W.clsIn K eC_NoName).isSome=true)
  (ew1_NoValue:W.typeIn K (.ref eC_NoValue)=some (.type "type"))
  (ew2_NoValue:W.subIn K (.ref eC_NoValue) (.type "BaseException")=some true)
  (ew3_NoValue:(W.clsIn K eC_NoValue).isSome=true)
  (el0_NoName:W.findIn K (.ref eC_NoName) "__getattribute__" = some (some (.builtin "BaseException.__getattribute__")))
  (el1_NoName:W.findIn K (.ref eC_NoName) "__class__" = some (some (.builtin "object.__class__")))
  (el2_NoName:W.findIn K (.ref eC_NoName) "__getattr__" = some none)
  (el3_NoName:W.mroIn K eC_NoName (.type "object")=some true)
  (el4_NoName:W.mroIn K eC_NoName (.type "BaseException")=some true)
  (el5_NoName:(W.clsIn K eC_NoName).isSome=true)
  (el0_NoValue:W.findIn K (.ref eC_NoValue) "__getattribute__" = some (some (.builtin "BaseException.__getattribute__")))
  (el1_NoValue:W.findIn K (.ref eC_NoValue) "__class__" = some (some (.builtin "object.__class__")))
  (el2_NoValue:W.findIn K (.ref eC_NoValue) "__getattr__" = some none)
  (el3_NoValue:W.mroIn K eC_NoValue (.type "object")=some true)
  (el4_NoValue:W.mroIn K eC_NoValue (.type "BaseException")=some true)
  (el5_NoValue:(W.clsIn K eC_NoValue).isSome=true)
  (ey_NoValue:excInI K eC_NoValue vErr vNew f3=true)
  (ek_NoValue:W.keepIn K (.ref eC_NoValue)=true)
  (es_NoValue:W.findIn K (.ref eC_NoValue) "__setattr__" = some (some (.builtin "object.__setattr__")))
  (eo_NoValue:overErr K eC_NoValue=true)
  (eh_NoValue:W.hasDictIn K eC_NoValue=true)
  (ef_NoValue_name:W.findIn K (.ref eC_NoValue) "name" = some none)
  (eu_NoName_NoName:W.subIn K (.ref eC_NoName) (.ref eC_NoName)=some true)
  (eu_NoValue_NoValue:W.subIn K (.ref eC_NoValue) (.ref eC_NoValue)=some true)
  (ev_NoValue_NoName:W.subIn K (.ref eC_NoValue) (.ref eC_NoName)=some false)
  (kk:((((((W.keepIn K (.ref f1) && W.keepIn K (.ref f2)) && (W.keepIn K (.ref f3) && W.keepIn K (.ref f4))) && ((W.keepIn K (.ref f5) && W.keepIn K (.ref f6)) && W.keepIn K (.ref f7))) && (((W.keepIn K (.ref f8) && W.keepIn K (.ref f9)) && W.keepIn K (.ref f10)) && ((W.keepIn K (.ref f11) && W.keepIn K (.ref f12)) && W.keepIn K (.ref f13)))) && ((((W.keepIn K (.ref f14) && W.keepIn K (.ref f15)) && W.keepIn K (.ref f16)) && ((W.keepIn K (.ref f17) && W.keepIn K (.ref f18)) && W.keepIn K (.ref f19))) && (((W.keepIn K (.ref f20) && W.keepIn K (.ref f21)) && W.keepIn K (.ref f22)) && ((W.keepIn K (.ref f23) && W.keepIn K (.ref f24)) && W.keepIn K (.ref f25))))) && (((((W.keepIn K (.ref f26) && W.keepIn K (.ref f27)) && (W.keepIn K (.ref f28) && W.keepIn K (.ref f29))) && ((W.keepIn K (.ref f30) && W.keepIn K (.ref f31)) && W.keepIn K (.ref f32))) && (((W.keepIn K (.ref f33) && W.keepIn K (.ref f34)) && W.keepIn K (.ref f35)) && ((W.keepIn K (.ref f36) && W.keepIn K (.ref f37)) && W.keepIn K (.ref f38)))) && ((((W.keepIn K (.ref f39) && W.keepIn K (.ref f40)) && W.keepIn K (.ref f41)) && ((W.keepIn K (.ref f42) && W.keepIn K (.ref f43)) && W.keepIn K (.ref f44))) && (((W.keepIn K (.ref f45) && W.keepIn K (.ref f46)) && W.keepIn K (.ref f47)) && ((W.keepIn K (.ref f48) && W.keepIn K (.ref f49)) && W.keepIn K (.ref f50))))))=true)
  (cc:((((((W.codeIn K cd1 "made_of" && W.codeIn K cd2 "is_whole_number") && (W.codeIn K cd3 "NoValue.__init__" && W.codeIn K cd4 "is_dot")) && ((W.codeIn K cd5 "is_gap" && W.codeIn K cd6 "name_of") && W.codeIn K cd7 "head_of")) && (((W.codeIn K cd8 "tail_of" && W.codeIn K cd9 "has_rest") && W.codeIn K cd10 "pattern_named") && ((W.codeIn K cd11 "_law_cell_at" && W.codeIn K cd12 "_law_names") && W.codeIn K cd13 "_law_signs"))) && ((((W.codeIn K cd14 "_law_gaps" && W.codeIn K cd15 "_law_name_of") && W.codeIn K cd16 "_law_filled") && ((W.codeIn K cd17 "_law_worths" && W.codeIn K cd18 "is_text") && W.codeIn K cd19 "names_of")) && (((W.codeIn K cd20 "spread" && W.codeIn K cd21 "fits_part") && W.codeIn K cd22 "is_number") && ((W.codeIn K cd23 "is_word" && W.codeIn K cd24 "bound_value") && W.codeIn K cd25 "steps_of_value")))) && (((((W.codeIn K cd26 "worth_of" && W.codeIn K cd27 "_law_text") && (W.codeIn K cd28 "is_filled_text" && W.codeIn K cd29 "step_fits")) && ((W.codeIn K cd30 "refuse_others" && W.codeIn K cd31 "worth_more") && W.codeIn K cd32 "_law_step")) && (((W.codeIn K cd33 "fits" && W.codeIn K cd34 "can_be_step") && W.codeIn K cd35 "worth_most") && ((W.codeIn K cd36 "_law_piece" && W.codeIn K cd37 "_law_value") && W.codeIn K cd38 "bound"))) && ((((W.codeIn K cd39 "is_value" && W.codeIn K cd40 "_law_small") && W.codeIn K cd41 "_law_values") && ((W.codeIn K cd42 "filled_steps" && W.codeIn K cd43 "lead") && W.codeIn K cd44 "_law_table")) && (((W.codeIn K cd45 "filled" && W.codeIn K cd46 "_law_led_right") && W.codeIn K cd47 "made") && ((W.codeIn K cd48 "_law_told" && W.codeIn K cd49 "_law_asked") && W.codeIn K cd50 "law")))))=true) :
  ∃ fd:FuncData,(∀ (s:Shared) (v:Value),BindsTo s fd ⟨[v],[]⟩ [("_law_script",v)])∧∀ base:Heap,K.In base->base.Ns mainGlobals mg->FnOk l.prog w K mg base CX0 11 fa fd ["_law_script"] (mqz K):=by
 have e:=hfa.symm.trans (W.mg_of X Gl a50)
 have e2:f50=fa:=by cases e; rfl
 subst e2
 have M:∀ {x:Str}{v:Value},W.nsIn K mainGlobals x=some (some v)->mg x=some v:=fun a => W.mg_of X Gl a
 have F1:=aqz (st:=dqD) l1 (aqd (aqd (aqd (aqd (aqd (aqd cc)))))) (aqd (aqd (aqd (aqd (aqd (aqd kk))))))
 have F2:=aqz (st:=aqM) l2 (aqe (aqd (aqd (aqd (aqd (aqd cc)))))) (aqe (aqd (aqd (aqd (aqd (aqd kk))))))
 have F3:=aqz (st:=aqG) l3 (aqd (aqe (aqd (aqd (aqd (aqd cc)))))) (aqd (aqe (aqd (aqd (aqd (aqd kk))))))
 have F4:=aqz (st:=fqg) l4 (aqe (aqe (aqd (aqd (aqd (aqd cc)))))) (aqe (aqe (aqd (aqd (aqd (aqd kk))))))
 have F5:=aqz (st:=fqq) l5 (aqd (aqd (aqe (aqd (aqd (aqd cc)))))) (aqd (aqd (aqe (aqd (aqd (aqd kk))))))
 have F6:=aqz (st:=dqS) l6 (aqe (aqd (aqe (aqd (aqd (aqd cc)))))) (aqe (aqd (aqe (aqd (aqd (aqd kk))))))
 have F7:=aqz (st:=dqH) l7 (aqe (aqe (aqd (aqd (aqd cc))))) (aqe (aqe (aqd (aqd (aqd kk)))))
 have F8:=aqz (st:=dqV) l8 (aqd (aqd (aqd (aqe (aqd (aqd cc)))))) (aqd (aqd (aqd (aqe (aqd (aqd kk))))))
 have F9:=aqz (st:=cqT) l9 (aqe (aqd (aqd (aqe (aqd (aqd cc)))))) (aqe (aqd (aqd (aqe (aqd (aqd kk))))))
 have F10:=aqz (st:=aq1) l10 (aqe (aqd (aqe (aqd (aqd cc))))) (aqe (aqd (aqe (aqd (aqd kk)))))
 have F11:=aqz (st:=aq7) l11 (aqd (aqd (aqe (aqe (aqd (aqd cc)))))) (aqd (aqd (aqe (aqe (aqd (aqd kk))))))
 have F12:=aqz (st:=bqF) l12 (aqe (aqd (aqe (aqe (aqd (aqd cc)))))) (aqe (aqd (aqe (aqe (aqd (aqd kk))))))
 have F13:=aqz (st:=bqK) l13 (aqe (aqe (aqe (aqd (aqd cc))))) (aqe (aqe (aqe (aqd (aqd kk)))))
 have F14:=aqz (st:=bq4) l14 (aqd (aqd (aqd (aqd (aqe (aqd cc)))))) (aqd (aqd (aqd (aqd (aqe (aqd kk))))))
 have F15:=aqz (st:=aq9) l15 (aqe (aqd (aqd (aqd (aqe (aqd cc)))))) (aqe (aqd (aqd (aqd (aqe (aqd kk))))))
 have F16:=aqz (st:=bql) l16 (aqe (aqd (aqd (aqe (aqd cc))))) (aqe (aqd (aqd (aqe (aqd kk)))))
 have F17:=aqz (st:=bqq) l17 (aqd (aqd (aqe (aqd (aqe (aqd cc)))))) (aqd (aqd (aqe (aqd (aqe (aqd kk))))))
 have F18:=aqz (st:=dqG) l18 (aqe (aqd (aqe (aqd (aqe (aqd cc)))))) (aqe (aqd (aqe (aqd (aqe (aqd kk))))))
 have F19:=aqz (st:=cqV) l19 (aqe (aqe (aqd (aqe (aqd cc))))) (aqe (aqe (aqd (aqe (aqd kk)))))
 have F20:=aqz (st:=fqf) l20 (aqd (aqd (aqd (aqe (aqe (aqd cc)))))) (aqd (aqd (aqd (aqe (aqe (aqd kk))))))
 have F21:=aqz (st:=bqZ) l21 (aqe (aqd (aqd (aqe (aqe (aqd cc)))))) (aqe (aqd (aqd (aqe (aqe (aqd kk))))))
 have F22:=aqz (st:=bq2) l22 (aqe (aqd (aqe (aqe (aqd cc))))) (aqe (aqd (aqe (aqe (aqd kk)))))
 have F23:=aqz (st:=dqI) l23 (aqd (aqd (aqe (aqe (aqe (aqd cc)))))) (aqd (aqd (aqe (aqe (aqe (aqd kk))))))
 have F24:=aqz (st:=bqj) l24 (aqe (aqd (aqe (aqe (aqe (aqd cc)))))) (aqe (aqd (aqe (aqe (aqe (aqd kk))))))
 have F25:=aqz (st:=aqW) l25 (aqe (aqe (aqe (aqe (aqd cc))))) (aqe (aqe (aqe (aqe (aqd kk)))))
 have F26:=aqz (st:=cqS) l26 (aqd (aqd (aqd (aqd (aqd (aqe cc)))))) (aqd (aqd (aqd (aqd (aqd (aqe kk))))))
 have F27:=aqz (st:=bq3) l27 (aqe (aqd (aqd (aqd (aqd (aqe cc)))))) (aqe (aqd (aqd (aqd (aqd (aqe kk))))))
 have F28:=aqz (st:=aqU) l28 (aqd (aqe (aqd (aqd (aqd (aqe cc)))))) (aqd (aqe (aqd (aqd (aqd (aqe kk))))))
 have F29:=aqz (st:=bq1) l29 (aqe (aqe (aqd (aqd (aqd (aqe cc)))))) (aqe (aqe (aqd (aqd (aqd (aqe kk))))))
 have F30:=aqz (st:=aqZ) l30 (aqd (aqd (aqe (aqd (aqd (aqe cc)))))) (aqd (aqd (aqe (aqd (aqd (aqe kk))))))
 have F31:=aqz (st:=bqG) l31 (aqe (aqd (aqe (aqd (aqd (aqe cc)))))) (aqe (aqd (aqe (aqd (aqd (aqe kk))))))
 have F32:=aqz (st:=bq5) l32 (aqe (aqe (aqd (aqd (aqe cc))))) (aqe (aqe (aqd (aqd (aqe kk)))))
 have F33:=aqz (st:=jqf) l33 (aqd (aqd (aqd (aqe (aqd (aqe cc)))))) (aqd (aqd (aqd (aqe (aqd (aqe kk))))))
 have F34:=aqz (st:=bqm) l34 (aqe (aqd (aqd (aqe (aqd (aqe cc)))))) (aqe (aqd (aqd (aqe (aqd (aqe kk))))))
 have F35:=aqz (st:=bqI) l35 (aqe (aqd (aqe (aqd (aqe cc))))) (aqe (aqd (aqe (aqd (aqe kk)))))
 have F36:=aqz (st:=bqL) l36 (aqd (aqd (aqe (aqe (aqd (aqe cc)))))) (aqd (aqd (aqe (aqe (aqd (aqe kk))))))
 have F37:=aqz (st:=bqH) l37 (aqe (aqd (aqe (aqe (aqd (aqe cc)))))) (aqe (aqd (aqe (aqe (aqd (aqe kk))))))
 have F38:=aqz (st:=gqE) l38 (aqe (aqe (aqe (aqd (aqe cc))))) (aqe (aqe (aqe (aqd (aqe kk)))))
 have F39:=aqz (st:=cqU) l39 (aqd (aqd (aqd (aqd (aqe (aqe cc)))))) (aqd (aqd (aqd (aqd (aqe (aqe kk))))))
 have F40:=aqz (st:=bqN) l40 (aqe (aqd (aqd (aqd (aqe (aqe cc)))))) (aqe (aqd (aqd (aqd (aqe (aqe kk))))))
 have F41:=aqz (st:=bqk) l41 (aqe (aqd (aqd (aqe (aqe cc))))) (aqe (aqd (aqd (aqe (aqe kk)))))
 have F42:=aqz (st:=aq6) l42 (aqd (aqd (aqe (aqd (aqe (aqe cc)))))) (aqd (aqd (aqe (aqd (aqe (aqe kk))))))
 have F43:=aqz (st:=jqn) l43 (aqe (aqd (aqe (aqd (aqe (aqe cc)))))) (aqe (aqd (aqe (aqd (aqe (aqe kk))))))
 have F44:=aqz (st:=bqJ) l44 (aqe (aqe (aqd (aqe (aqe cc))))) (aqe (aqe (aqd (aqe (aqe kk)))))
 have F45:=aqz (st:=fqo) l45 (aqd (aqd (aqd (aqe (aqe (aqe cc)))))) (aqd (aqd (aqd (aqe (aqe (aqe kk))))))
 have F46:=aqz (st:=aqV) l46 (aqe (aqd (aqd (aqe (aqe (aqe cc)))))) (aqe (aqd (aqd (aqe (aqe (aqe kk))))))
 have F47:=aqz (st:=iq8) l47 (aqe (aqd (aqe (aqe (aqe cc))))) (aqe (aqd (aqe (aqe (aqe kk)))))
 have F48:=aqz (st:=bq6) l48 (aqd (aqd (aqe (aqe (aqe (aqe cc)))))) (aqd (aqd (aqe (aqe (aqe (aqe kk))))))
 have F49:=aqz (st:=bqM) l49 (aqe (aqd (aqe (aqe (aqe (aqe cc)))))) (aqe (aqd (aqe (aqe (aqe (aqe kk))))))
 have F50:=aqz (st:=mqT) l50 (aqe (aqe (aqe (aqe (aqe cc))))) (aqe (aqe (aqe (aqe (aqe kk)))))
 let g:G w K mg:={
  gqi:=f1,fqw:=_,fqb:=F1,gqq:=M a1,
  fqU:=F1.binds (by walk_at "b2"),
  bqn:=f2,bqc:=_,bqY:=F2,dqB:=M a2,
  dqO:=F2.binds (by walk_at "b1"),
  bqb:=f3,aq3:=_,dqw:=F3,
  bqS:=F3.binds (by walk_at "b2"),
  hqo:=f4,fq8:=_,gql:=F4,hqA:=M a4,
  hqt:=F4.binds (by walk_at "b1"),
  hqp:=f5,gqd:=_,gqg:=F5,hqu:=M a5,
  hqr:=F5.binds (by walk_at "b1"),
  gqo:=f6,fqj:=_,dqU:=F6,eq5:=M a6,
  eq9:=F6.binds (by walk_at "b1"),
  fqY:=f7,fqu:=_,cq4:=F7,dqC:=M a7,
  dqL:=F7.binds (by walk_at "b1"),
  fq3:=f8,fqm:=_,cq1:=F8,dqX:=M a8,
  dqM:=F8.binds (by walk_at "b1"),
  fqx:=f9,eqm:=_,gqB:=F9,iqV:=M a9,
  iq1:=F9.binds (by walk_at "b1"),
  bqU:=f10,bqv:=_,cq8:=F10,eqG:=M a10,
  fqe:=F10.binds (by walk_at "b2"),
  cqe:=f11,bqO:=_,aqY:=F11,aq5:=M a11,
  aq8:=F11.binds (by walk_at "b2"),
  dqs:=f12,cqw:=_,dqf:=F12,eq2:=M a12,
  eqN:=F12.binds (by walk_at "b2"),
  dqa:=f13,cqy:=_,eqY:=F13,gqZ:=M a13,
  gqW:=F13.binds (by walk_at "b0"),
  dq7:=f14,dql:=_,fqG:=F14,iqd:=M a14,
  hqZ:=F14.binds (by walk_at "b1"),
  bq8:=f15,bqQ:=_,dqy:=F15,fqB:=M a15,
  fqE:=F15.binds (by walk_at "b1"),
  cqK:=f16,cqf:=_,cqF:=F16,eqi:=M a16,
  dq1:=F16.binds (by walk_at "b2"),
  cqG:=f17,cqg:=_,cqH:=F17,eqc:=M a17,
  eqa:=F17.binds (by walk_at "b1"),
  gqu:=f18,fqk:=_,iqj:=F18,kqV:=M a18,
  kqo:=F18.binds (by walk_at "b1"),
  fqn:=f19,dq4:=_,gqG:=F19,iq4:=M a19,
  iq3:=F19.binds (by walk_at "b1"),
  hqD:=f20,gqr:=_,kqe:=F20,lq9:=M a20,
  mqi:=F20.binds (by walk_at "b2"),
  dq5:=f21,dqn:=_,fqL:=F21,hqN:=M a21,
  iqo:=F21.binds (by walk_at "b2"),
  eqh:=f22,dqd:=_,fqN:=F22,iqk:=M a22,
  hqM:=F22.binds (by walk_at "b1"),
  fqR:=f23,fqr:=_,gqf:=F23,hqT:=M a23,
  iqs:=F23.binds (by walk_at "b1"),
  cqN:=f24,cqc:=_,eqe:=F24,fqZ:=M a24,
  fq5:=F24.binds (by walk_at "b2"),
  bqB:=f25,bqo:=_,cqp:=F25,eqA:=M a25,
  eqx:=F25.binds (by walk_at "b2"),
  fqh:=f26,dqZ:=_,cqQ:=F26,dqP:=M a26,
  dqK:=F26.binds (by walk_at "b1"),
  eqj:=f27,dqo:=_,bq7:=F27,cq0:=M a27,
  cqX:=F27.binds (by walk_at "b1"),
  bqA:=f28,bqp:=_,bqx:=F28,cqs:=M a28,
  cqt:=F28.binds (by walk_at "b1"),
  dq0:=f29,dqx:=_,fqI:=F29,iqn:=M a29,
  hq7:=F29.binds (by walk_at "b2"),
  bqR:=f30,bqC:=_,cq3:=F30,eqI:=M a30,
  eqF:=F30.binds (by walk_at "b2"),
  dqi:=f31,cqx:=_,eq8:=F31,gq0:=M a31,
  hqi:=F31.binds (by walk_at "b2"),
  eqb:=f32,dqm:=_,cq6:=F32,eqg:=M a32,
  eqo:=F32.binds (by walk_at "b1"),
  mqw:=f33,jqZ:=_,mqQ:=F33,pqq:=M a33,
  oq1:=F33.binds (by walk_at "b2"),
  cqA:=f34,cqb:=_,eqs:=F34,gqe:=M a34,
  fq7:=F34.binds (by walk_at "b1"),
  dqp:=f35,cqC:=_,eqX:=F35,hqa:=M a35,
  gq2:=F35.binds (by walk_at "b1"),
  dqh:=f36,cqO:=_,fqa:=F36,gq1:=M a36,
  hqc:=F36.binds (by walk_at "b2"),
  dqc:=f37,cqz:=_,eqM:=F37,hqd:=M a37,
  gq9:=F37.binds (by walk_at "b2"),
  jqA:=f38,hqv:=_,lqJ:=F38,nq3:=M a38,
  nqQ:=F38.binds (by walk_at "b2"),
  fqv:=f39,eqq:=_,gqJ:=F39,iq7:=M a39,
  iqR:=F39.binds (by walk_at "b2"),
  dqg:=f40,cqI:=_,eq3:=F40,gq4:=M a40,
  gq6:=F40.binds (by walk_at "b2"),
  cqP:=f41,cqh:=_,eql:=F41,gqa:=M a41,
  gqt:=F41.binds (by walk_at "b2"),
  cqi:=f42,bqV:=_,dqz:=F42,fqC:=M a42,
  fqz:=F42.binds (by walk_at "b2"),
  mqL:=f43,jqR:=_,nqL:=F43,rqd:=M a43,
  rqm:=F43.binds (by walk_at "b2"),
  dqv:=f44,cqD:=_,eqR:=F44,hqf:=M a44,
  gqX:=F44.binds (by walk_at "b5"),
  hqz:=f45,fqV:=_,jqw:=F45,mqy:=M a45,
  mqk:=F45.binds (by walk_at "b2"),
  bqy:=f46,bqi:=_,cqo:=F46,eqC:=M a46,
  eqy:=F46.binds (by walk_at "b4"),
  mqf:=f47,kqa:=_,pqw:=F47,rqi:=M a47,
  rql:=F47.binds (by walk_at "b3"),
  eqk:=f48,dqk:=_,bq0:=F48,cq7:=M a48,
  cq5:=F48.binds (by walk_at "b3"),
  dqq:=f49,cqE:=_,fqd:=F49,hqe:=M a49,
  gq8:=F49.binds (by walk_at "b3"),
  qqd:=f50,kqU:=_,tq9:=F50,uq4:=M a50,
  uq1:=F50.binds (by walk_at "b1"),
  bqz:=qa_WORTH_OF_WORDS,equ:=W.mg_of X Gl e_WORTH_OF_WORDS,eqz:=fun P h hI => PyProof.Rows.KTD.strTab_of_look P w hI yl_WORTH_OF_WORDS (by decide) yh_WORTH_OF_WORDS,
  hqH:=hqH,pqy:=W.mg_of X Gl e_SIGNS,
  bqg:=bqg,eq7:=W.mg_of X Gl e_SMALL_LETTERS,
  eqO:=eqO,lqk:=W.mg_of X Gl e_FIGURES,
  fqS:=fqS,lq8:=W.mg_of X Gl e_ROOTED,
  iqg:=iqg,lqQ:=W.mg_of X Gl e_STEPS,
  lql:=lql,qq9:=W.mg_of X Gl e_ENDS,
  kq3:=kq3,qq5:=W.mg_of X Gl e_STAY,
  t_UP:=t_UP,c_UP:=W.mg_of X Gl e_UP,
  gqn:=gqn,cqj:=W.mg_of X Gl e_PIECES,
  fqP:=fqP,jqG:=W.mg_of X Gl e_CLOSES,
  aq4:=aq4,eqD:=W.mg_of X Gl e_LONGEST_NUMBER,
  bqt:=bqt,fqD:=W.mg_of X Gl e_LONGEST_WORD,
  qqy:=W.mg_none_of X Gl z_all,
  bqh:=W.mg_none_of X Gl z_isinstance,
  rqa:=W.mg_none_of X Gl z_bool,
  rqT:=W.mg_none_of X Gl z_int,
  bqa:=W.mg_none_of X Gl z_len,
  dq6:=W.mg_none_of X Gl z_range,
  iqt:=W.mg_none_of X Gl z_tuple,
  oqI:=W.mg_none_of X Gl z_str,
  rqp:=W.mg_none_of X Gl z_dict,
  mqu:=W.mg_none_of X Gl z_list,
  sqp:=W.mg_none_of X Gl z_zip,
  dq3:=W.mg_none_of X Gl z_enumerate,
  cqa:=eC_NoName,jqE:=W.mg_of X Gl en_NoName,
  aqD:=eC_NoValue,gqb:=W.mg_of X Gl en_NoValue,
  mqM:=ex_NoName,
  mqN:=⟨ew1_NoName,ew2_NoName,ew3_NoName⟩,
  kqL:=⟨ew1_NoValue,ew2_NoValue,ew3_NoValue⟩,
  qqv:=⟨el0_NoName,el1_NoName,el2_NoName,el3_NoName,el4_NoName,el5_NoName⟩,
  oqC:=⟨el0_NoValue,el1_NoValue,el2_NoValue,el3_NoValue,el4_NoValue,el5_NoValue⟩,
  iqh:=⟨ey_NoValue,i3,ek_NoValue⟩,
  eq6:=⟨es_NoValue,eo_NoValue,ef_NoValue_name,eh_NoValue⟩,
  eqK:=⟨⟨el0_NoValue,el1_NoValue,el2_NoValue,el3_NoValue,el4_NoValue,el5_NoValue⟩,ef_NoValue_name,eh_NoValue⟩,
  eqT:=eu_NoName_NoName,
  dqY:=eu_NoValue_NoValue,
  eqB:=ev_NoValue_NoName }
 exact ⟨g.kqU,fun s v => .of_eq rfl,fun base _ _ => uqi g⟩
theorem walk {l:PySem.W.OpenLaw}{q:Program}{loose:List Str}{XP:(Str->Option Value)->Heap->Prop}{YP:World->Heap->Prop}{d:DefRec}{K:Params->W.Frag} (hn:l.most=some 63) (hdf:d.params.defaults=[])
  (hY:∀ (w:World) (h:Heap),YP w h->(K w.params).In h)
  (F:∀ (w:World) (mg:Str->Option Value) (fa:Addr) (h:Heap),(K w.params).In h->h.Ns mainGlobals mg->mg d.name=some (.ref fa) ->
   ∃ fd:FuncData,(∀ (s:Shared) (u:Value),BindsTo s fd ⟨[u],[]⟩ [("_law_script",u)])∧∀ base:Heap,(K w.params).In base->base.Ns mainGlobals mg->FnOk l.prog w (K w.params) mg base CX0 11 fa fd ["_law_script"] (mqz (K w.params))) :
  PySem.W.WalkO q loose XP YP l.row.toRowW d [] (fun f vs => PySem.call f vs) :=
 L2.sqZ (n:=63) (k:=11) (x := "_law_script") (CX:=fun _ => CX0) (sp:=fun w => mqz (K w.params)) hn (by decide) hdf ⟨rfl,by decide,by decide⟩ hY F (fun _ _ a ns hl _ hS => ⟨a,ns,rfl,hS,hl,fun _ => rfl⟩) fun _ _ _ _ _ z => z
end Wm
theorem PySem.W.Fast.tw14339422169691891508:True:=trivial
theorem PySem.W.Fast.tw1705369038055887755:True:=trivial
theorem PySem.W.Fast.tw17959489263050591152:True:=trivial
theorem PySem.W.Fast.tw1252067141892106613:True:=trivial
theorem PySem.W.Fast.tw4380493117412766848:True:=trivial
theorem PySem.W.Fast.tw11630455414825072379:True:=trivial
theorem PySem.W.Fast.tw18036703247193430137:True:=trivial
theorem PySem.W.Fast.tw1427166952305889803:True:=trivial
theorem PySem.W.Fast.tw1199595691640273311:True:=trivial
theorem PySem.W.Fast.tw13970553199562039349:True:=trivial
theorem PySem.W.Fast.tw2084369261232142411:True:=trivial
theorem PySem.W.Fast.tw15856767905344137761:True:=trivial
theorem PySem.W.Fast.tw14857897841054860921:True:=trivial
theorem PySem.W.Fast.tw12738169018324026513:True:=trivial
theorem PySem.W.Fast.tw1702392426826322185:True:=trivial
theorem PySem.W.Fast.tw17688125389725497525:True:=trivial
theorem PySem.W.Fast.tw3140083330794253649:True:=trivial
theorem PySem.W.Fast.tw12129415300929854242:True:=trivial
theorem PySem.W.Fast.tw13179074143508494134:True:=trivial
theorem PySem.W.Fast.tw15423963616987276946:True:=trivial
theorem PySem.W.Fast.tw13914533163546019859:True:=trivial
theorem PySem.W.Fast.tw11935238660389683612:True:=trivial
theorem PySem.W.Fast.tw9668421867782080010:True:=trivial
theorem PySem.W.Fast.tw3701046462359166056:True:=trivial
theorem PySem.W.Fast.tw10163026745651124663:True:=trivial
theorem PySem.W.Fast.tw13126386154699555584:True:=trivial
theorem PySem.W.Fast.tw15316825770846643768:True:=trivial
theorem PySem.W.Fast.tw2655983452207494889:True:=trivial
theorem PySem.W.Fast.tw16049110687266139797:True:=trivial
theorem PySem.W.Fast.tw12580455321674163610:True:=trivial
theorem PySem.W.Fast.tw444281431535917407:True:=trivial
theorem PySem.W.Fast.tw8635628727004444440:True:=trivial
theorem PySem.W.Fast.tw16311592466061052357:True:=trivial
theorem PySem.W.Fast.tw2730618552104159486:True:=trivial
theorem PySem.W.Fast.tw11541675822201747780:True:=trivial
theorem PySem.W.Fast.tw7923170170765061724:True:=trivial
theorem PySem.W.Fast.tw18011562723108657442:True:=trivial
theorem PySem.W.Fast.tw11121011976655837889:True:=trivial
theorem PySem.W.Fast.tw15006934506711917820:True:=trivial
theorem PySem.W.Fast.tw1925073892724605936:True:=trivial
theorem PySem.W.Fast.tw597374210644148789:True:=trivial
theorem PySem.W.Fast.tw9316971916134256424:True:=trivial
theorem PySem.W.Fast.tw1666452613064549515:True:=trivial
theorem PySem.W.Fast.tw9306804299399402497:True:=trivial
theorem PySem.W.Fast.tw17537368422975785705:True:=trivial
theorem PySem.W.Fast.tw17091158317959746023:True:=trivial
theorem PySem.W.Fast.tw12519155802449225014:True:=trivial
theorem PySem.W.Fast.tw6594827981159764865:True:=trivial
theorem PySem.W.Fast.tw9484235445604498645:True:=trivial
theorem PySem.W.Fast.tw15864359395375002918:True:=trivial
theorem PySem.W.Fast.tw8071138511051673499:True:=trivial
theorem PySem.W.Fast.tw3209108620322367218:True:=trivial
theorem PySem.W.Fast.tw2966944017423383473:True:=trivial
theorem PySem.W.Fast.tw13104887949228873584:True:=trivial
theorem PySem.W.Fast.tw6268995807709043497:True:=trivial
theorem PySem.W.Fast.tw2710292465630676600:True:=trivial
theorem PySem.W.Fast.tw9619141300576777382:True:=trivial
theorem PySem.W.Fast.tw13744826847196431991:True:=trivial
theorem PySem.W.Fast.tw13288065951996243750:True:=trivial
theorem PySem.W.Fast.tw14898297578508646850:True:=trivial
theorem PySem.W.Fast.tw3983156146301541518:True:=trivial
theorem PySem.W.Fast.tw12580380171166160053:True:=trivial
theorem PySem.W.Fast.tw17032790926591902319:True:=trivial
theorem PySem.W.Fast.tw8503635886104791704:True:=trivial
theorem PySem.W.Fast.tw11132443194651407232:True:=trivial
theorem PySem.W.Fast.tw14930539057481694224:True:=trivial
theorem PySem.W.Fast.tw6491344194192386738:True:=trivial
theorem PySem.W.Fast.tw4272750984705524408:True:=trivial
theorem PySem.W.Fast.tw14753996429954250647:True:=trivial
theorem PySem.W.Fast.tw7277204706828919030:True:=trivial
theorem PySem.W.Fast.tw3878133473061747114:True:=trivial
theorem PySem.W.Fast.tw10128065169425232085:True:=trivial
theorem PySem.W.Fast.tw10550806076911953551:True:=trivial
theorem PySem.W.Fast.tw7882357098086240406:True:=trivial
theorem PySem.W.Fast.tw6970879997518478804:True:=trivial
theorem PySem.W.Fast.tw13368184168960883536:True:=trivial
theorem PySem.W.Fast.tw16754802863144741057:True:=trivial
theorem PySem.W.Fast.tw7611042711896502516:True:=trivial
theorem PySem.W.Fast.tw2388661432408182280:True:=trivial
theorem PySem.W.Fast.tw5376310725657721771:True:=trivial
theorem PySem.W.Fast.tw8889192933901808837:True:=trivial
theorem PySem.W.Fast.tw5276651856357495434:True:=trivial
theorem PySem.W.Fast.tw11914576165532150726:True:=trivial
theorem PySem.W.Fast.tw4724266141977240348:True:=trivial
theorem PySem.W.Fast.tw340295478113955069:True:=trivial
theorem PySem.W.Fast.tw16523053143116187113:True:=trivial
theorem PySem.W.Fast.tw8039126877790915719:True:=trivial
theorem PySem.W.Fast.tw11864277643330838901:True:=trivial
theorem PySem.W.Fast.tw308154672681333140:True:=trivial
theorem PySem.W.Fast.tw16193383850231632150:True:=trivial
theorem PySem.W.Fast.tw18217927963142880025:True:=trivial
theorem PySem.W.Fast.tw16450548378493925463:True:=trivial
theorem PySem.W.Fast.tw11074479044205363384:True:=trivial
theorem PySem.W.Fast.tw12478682211273590602:True:=trivial
theorem PySem.W.Fast.tw1833790648773494616:True:=trivial
theorem PySem.W.Fast.tw13967806366194476305:True:=trivial
theorem PySem.W.Fast.tw6328282319060062789:True:=trivial
theorem PySem.W.Fast.tw918915958761373497:True:=trivial
theorem PySem.W.Fast.tw3415947699230754488:True:=trivial
theorem PySem.W.Fast.tw14075430809120489417:True:=trivial
theorem PySem.W.Fast.tw16914763490452512464:True:=trivial
theorem PySem.W.Fast.tw17624834999194298326:True:=trivial
theorem PySem.W.Fast.tw14345169140331086688:True:=trivial
theorem PySem.W.Fast.tw17879609379028535498:True:=trivial
theorem PySem.W.Fast.tw3521983780470294043:True:=trivial
theorem PySem.W.Fast.tw13737544217044890441:True:=trivial
theorem PySem.W.Fast.tw2666163845414512108:True:=trivial
theorem PySem.W.Fast.tw2858098291312840579:True:=trivial
theorem PySem.W.Fast.tw5619165010212841938:True:=trivial
theorem PySem.W.Fast.tw7663003005509939835:True:=trivial
open PySem PySem.W PyProof.Rows
set_option maxRecDepth 100000 in
set_option maxHeartbeats 0 in
theorem PySem.Challenge.cw_waymark_k63_ways_made_and_led_back_holds : PySem.Challenge.rw_waymark_k63_ways_made_and_led_back.Holds := by
 w_on; o_law; k_head; (case hw => w_witness2)
 k_fill
 refine Wm.walk (l := PySem.Challenge.rw_waymark_k63_ways_made_and_led_back) rfl rfl (fun w h Y => PySem.W.kIn_of Y) ?F
 case F =>
  intro w mg fa h KX G hmg
  refine' Wm.uqJ KX G hmg ?en_NoName ?en_NoValue ?a1 ?l1 ?a2 ?l2 ?a3 ?i3 ?l3 ?a4 ?l4 ?a5 ?l5 ?a6 ?l6 ?a7 ?l7 ?a8 ?l8 ?a9 ?l9 ?a10 ?l10 ?a11 ?l11 ?a12 ?l12 ?a13 ?l13 ?a14 ?l14 ?a15 ?l15 ?a16 ?l16 ?a17 ?l17 ?a18 ?l18 ?a19 ?l19 ?a20 ?l20 ?a21 ?l21 ?a22 ?l22 ?a23 ?l23 ?a24 ?l24 ?a25 ?l25 ?a26 ?l26 ?a27 ?l27 ?a28 ?l28 ?a29 ?l29 ?a30 ?l30 ?a31 ?l31 ?a32 ?l32 ?a33 ?l33 ?a34 ?l34 ?a35 ?l35 ?a36 ?l36 ?a37 ?l37 ?a38 ?l38 ?a39 ?l39 ?a40 ?l40 ?a41 ?l41 ?a42 ?l42 ?a43 ?l43 ?a44 ?l44 ?a45 ?l45 ?a46 ?l46 ?a47 ?l47 ?a48 ?l48 ?a49 ?l49 ?a50 ?l50 ?e_WORTH_OF_WORDS ?yl_WORTH_OF_WORDS ?yh_WORTH_OF_WORDS ?e_SIGNS ?e_SMALL_LETTERS ?e_FIGURES ?e_ROOTED ?e_STEPS ?e_ENDS ?e_STAY ?e_UP ?e_PIECES ?e_CLOSES ?e_LONGEST_NUMBER ?e_LONGEST_WORD ?z_all ?z_isinstance ?z_bool ?z_int ?z_len ?z_range ?z_tuple ?z_str ?z_dict ?z_list ?z_zip ?z_enumerate ?ex_NoName ?ew1_NoName ?ew2_NoName ?ew3_NoName ?ew1_NoValue ?ew2_NoValue ?ew3_NoValue ?el0_NoName ?el1_NoName ?el2_NoName ?el3_NoName ?el4_NoName ?el5_NoName ?el0_NoValue ?el1_NoValue ?el2_NoValue ?el3_NoValue ?el4_NoValue ?el5_NoValue ?ey_NoValue ?ek_NoValue ?es_NoValue ?eo_NoValue ?eh_NoValue ?ef_NoValue_name ?eu_NoName_NoName ?eu_NoValue_NoValue ?ev_NoValue_NoName ?kk ?cc
  (case en_NoName | en_NoValue => first | k_is | kit_is | with_unfolding_all kernel_rfl | with_unfolding_all rfl)
  (case a1 | l1 | a2 | l2 | a3 | i3 | l3 | a4 | l4 | a5 | l5 | a6 | l6 | a7 | l7 | a8 | l8 | a9 | l9 | a10 | l10 | a11 | l11 | a12 | l12 | a13 | l13 | a14 | l14 | a15 | l15 | a16 | l16 | a17 | l17 | a18 | l18 | a19 | l19 | a20 | l20 | a21 | l21 | a22 | l22 | a23 | l23 | a24 | l24 | a25 | l25 | a26 | l26 | a27 | l27 | a28 | l28 | a29 | l29 | a30 | l30 | a31 | l31 | a32 | l32 | a33 | l33 | a34 | l34 | a35 | l35 | a36 | l36 | a37 | l37 | a38 | l38 | a39 | l39 | a40 | l40 | a41 | l41 | a42 | l42 | a43 | l43 | a44 | l44 | a45 | l45 | a46 | l46 | a47 | l47 | a48 | l48 | a49 | l49 | a50 | l50 | e_WORTH_OF_WORDS => k_is)
  (case yl_WORTH_OF_WORDS | yh_WORTH_OF_WORDS => first | k_is | with_unfolding_all kernel_rfl | with_unfolding_all rfl)
  (case e_SIGNS | e_SMALL_LETTERS | e_FIGURES | e_ROOTED | e_STEPS | e_ENDS | e_STAY | e_UP | e_PIECES | e_CLOSES | e_LONGEST_NUMBER | e_LONGEST_WORD | z_all | z_isinstance | z_bool | z_int | z_len | z_range | z_tuple | z_str | z_dict | z_list | z_zip | z_enumerate => k_is)
  (case ex_NoName | ew1_NoName | ew2_NoName | ew3_NoName | ew1_NoValue | ew2_NoValue | ew3_NoValue | el0_NoName | el1_NoName | el2_NoName | el3_NoName | el4_NoName | el5_NoName | el0_NoValue | el1_NoValue | el2_NoValue | el3_NoValue | el4_NoValue | el5_NoValue | ey_NoValue | ek_NoValue | es_NoValue | eo_NoValue | eh_NoValue | ef_NoValue_name | eu_NoName_NoName | eu_NoValue_NoValue | ev_NoValue_NoName => first | k_is | kit_is | with_unfolding_all kernel_rfl | with_unfolding_all rfl)
  (case kk | cc => first | k_is | with_unfolding_all kernel_rfl | with_unfolding_all rfl)
