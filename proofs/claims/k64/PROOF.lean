import PyProof.Rows.All
import Wide.All
import OpenK.AllK
import Wide.FinOn
import Lean
import PyProof.EqAt
import PyProof.EqKinds
import PyProof.TupleCall
import PySem.Challenge.RW_waymark_k64_addresses_made
open List(mem_filter mem_range filterMap_cons mem_cons_self mem_cons_of_mem mem_cons mem_append mem_append_left mem_filterMap mem_append_right length_cons map_cons length_map append_nil nodup_cons of_mem_zip length_take mem_of_getElem? length_append length_replicate size_toArray length_drop all_cons any_cons length_singleton map_nil not_mem_nil all_eq_true take_add_one map_append take_length range_succ length_range drop_zero take_of_length_le drop_eq_nil_of_le flatMap_cons getElem_mem sum_cons mem_map mem_singleton map_map map_drop forIn_cons forIn_nil length_nil take_append_drop all_append lookup_cons append_assoc nil_append length_pos_iff replicate_succ length_filter_le filter_append filter_cons length_eq_zero_iff drop_drop mem_map_of_mem take_left drop_left cons_append all_map mem_of_mem_take take_zero isEmpty_map)
set_option Elab.async false
set_option linter.all false
set_option maxRecDepth 100000
namespace L2
open PySem PySem.Spec PyProof.Rows
abbrev Key:=Sum Int Str
def keyIs:Key->Value->Bool
 |.inl k,v=>Value.isInt k v
 |.inr x,v=>Value.isStrOf x v
def keyH (w:World):Key->Int
 |.inl k=>hashInt k
 |.inr x=>hashStr w x
theorem bqs:∀{k:Key}{v:Value},keyIs k v=true->(∃i t,k=Sum.inl i∧v=Value.int i t)∨(∃x t,k=Sum.inr x∧v=Value.str x t)
 |.inl i,v,h=>by
  obtain⟨t,e⟩:=Value.isInt_shape (k:=i) (v:=v) h
  exact .inl ⟨i,t,rfl,e⟩
 |.inr x,v,h=>by
  obtain⟨t,e⟩:=Value.isStrOf_shape (x:=x) (v:=v) h
  exact .inr ⟨x,t,rfl,e⟩
def sqB (i:Int)(t:Tok):keyIs (.inl i) (.int i t)=true:=by simp[keyIs,Value.isInt]
def uqr (x:Str)(t:Tok):keyIs (.inr x) (.str x t)=true:=by simp[keyIs,Value.isStrOf]
def zqP (a b:Int):decide ((Sum.inl a:Key)=Sum.inl b)=(a == b):=by
 by_cases e:a=b
 ·subst e;simp
 ·have h:¬ (Sum.inl a:Key)=Sum.inl b:=fun q=>e (Sum.inl.inj q)
  rw[decide_eq_false h]
  exact (beq_eq_false_iff_ne.mpr e).symm
def zqO (a b:Str):decide ((Sum.inr a:Key)=Sum.inr b)=decide (a=b):=by
 by_cases e:a=b
 ·subst e;simp
 ·have h:¬ (Sum.inr a:Key)=Sum.inr b:=fun q=>e (Sum.inr.inj q)
  rw[decide_eq_false h,decide_eq_false e]
def zq8 (a:Int)(b:Str):decide ((Sum.inl a:Key)=Sum.inr b)=false:=decide_eq_false (fun q=>nomatch q)
def zqH (a:Str)(b:Int):decide ((Sum.inr a:Key)=Sum.inl b)=false:=decide_eq_false (fun q=>nomatch q)
def mixKind (prog:Program)(w:World):PySem.KeyKind prog w Key where
 is:=keyIs
 hash:=keyH w
 inj:=fun v a b ha hb=>by
  rcases bqs ha with⟨i,t,rfl,rfl⟩|⟨x,t,rfl,rfl⟩
  ·rcases bqs hb with⟨j,u,rfl,e⟩|⟨y,u,rfl,e⟩
   ·injection e with e1 _;rw[e1]
   ·exact nomatch e
  ·rcases bqs hb with⟨j,u,rfl,e⟩|⟨y,u,rfl,e⟩
   ·exact nomatch e
   ·injection e with e1 _;rw[e1]
 byValue:=fun k v h=>by
  rcases bqs h with⟨i,t,rfl,rfl⟩|⟨x,t,rfl,rfl⟩ <;> rfl
 pyHash:=fun hv h=>by
  rcases bqs hv with⟨i,t,rfl,rfl⟩|⟨x,t,rfl,rfl⟩
  ·exact wpAny_pyHash_int h
  ·exact wpAny_pyHash_str h
 eqBool:=fun hu hv h=>by
  rcases bqs hu with⟨i,t,rfl,rfl⟩|⟨x,t,rfl,rfl⟩
  ·rcases bqs hv with⟨j,u,rfl,rfl⟩|⟨y,u,rfl,rfl⟩
   ·rw[zqP] at h;exact wpAny_eqBool_int h
   ·rw[zq8] at h;exact SeqAt.EqAt.int_str i t y u _ _ _ _ h
  ·rcases bqs hv with⟨j,u,rfl,rfl⟩|⟨y,u,rfl,rfl⟩
   ·rw[zqH] at h;exact SeqAt.EqAt.str_int x t j u _ _ _ _ h
   ·rw[zqO] at h;exact wpAny_eqBool_str h
 «strs»:=fun k x t v h=>by
  rcases bqs h with⟨i,u,rfl,e⟩|⟨y,u,rfl,e⟩
  ·exact nomatch e
  ·injection e with e1 _
   subst e1
   cases v <;> rfl
def pq3 (prog:Program)(w:World)(i:Int)(t:Tok):(mixKind prog w).is (.inl i) (.int i t)=true:=sqB i t
def pqO (prog:Program)(w:World)(x:Str)(t:Tok):(mixKind prog w).is (.inr x) (.str x t)=true:=uqr x t
inductive V where
 |non|bl (b:Bool)|int (i:Int)|str (x:Str)|byt (b:Array UInt8)|flt (b:UInt64)|ref (a:Addr)|ty (n:String)
 deriving DecidableEq
def RelV:V->Value->Prop
 |.non,u=>u=Value.none
 |.bl b,u=>u=Value.bool b
 |.int i,u=>∃t,u=Value.int i t
 |.str x,u=>∃t,u=Value.str x t
 |.byt b,u=>∃t,u=Value.bytes b t
 |.flt b,u=>∃t,u=Value.float b t
 |.ref a,u=>u=Value.ref a
 |.ty n,u=>u=Value.type n
abbrev Vals:List V->List Value->Prop:=Paired RelV
def Vals.length {xs:List V}{us:List Value}(r:Vals xs us):xs.length=us.length:=Paired.length r
theorem Vals.get:∀{xs:List V}{us:List Value}{i:Nat}{x:V},Vals xs us->xs[i]?=some x->∃u,us[i]?=some u∧RelV x u
 |_,_,_,_,.nil,e=>by simp at e
 |_,_,0,_,.cons r _,e=>by simp at e;subst e;exact⟨_,rfl,r⟩
 |_,_,i+1,x,.cons _ t,e=>by
  obtain⟨u,h1,h2⟩:=Vals.get (i:=i) (x:=x) t (by simpa using e)
  exact⟨u,by simpa using h1,h2⟩
theorem Vals.set {x:V}{u:Value}(r:RelV x u):∀{xs:List V}{us:List Value} (i:Nat),Vals xs us->Vals (xs.set i x) (us.set i u)
 |_,_,_,.nil=>.nil
 |_,_,0,.cons _ t=>.cons r t
 |_,_,i+1,.cons q t=>.cons q (Vals.set r i t)
theorem Vals.append:∀{xs ys:List V}{us ws:List Value},Vals xs us->Vals ys ws->Vals (xs++ys) (us++ws)
 |_,_,_,_,.nil,s=>s
 |_,_,_,_,.cons r t,s=>.cons r (Vals.append t s)
theorem Vals.take:∀{xs:List V}{us:List Value} (n:Nat),Vals xs us->Vals (xs.take n) (us.take n)
 |_,_,0,_=>.nil
 |_,_,_+1,.nil=>.nil
 |_,_,n+1,.cons r t=>.cons r (Vals.take n t)
theorem Vals.drop:∀{xs:List V}{us:List Value} (n:Nat),Vals xs us->Vals (xs.drop n) (us.drop n)
 |_,_,0,r=>r
 |_,_,_+1,.nil=>.nil
 |_,_,n+1,.cons _ t=>Vals.drop n t
def RelO:Option V->Option Value->Prop
 |some v,some u=>RelV v u
 |none,none=>True
 |_,_=>False
def KV {κ:Type}:List (κ×V)->List (κ×Value)->Prop:=Paired fun (p:κ×V) (q:κ×Value)=>p.1=q.1∧RelV p.2 q.2
def kV:Key->V
 |.inl i=>.int i
 |.inr x=>.str x
inductive HO where
 |lst (xs:List V)
 |tup (xs:List V)
 |dK (kvs:List (Key×V))|dT (kvs:List (List Key×V))
 |set (S:Int->Bool) (n:Nat)
 |ins (C dx:Addr) (fs:List (Str×V))
 |own (x:Addr)
 |xd (fs:List (Str×V))
 |met (f x:Addr)
 |rng (lo hi:Int)
 |frz (o:Obj) (u:HO)
 |tbl (ps:Array Value)
 |ext (φ:Heap->Prop)
abbrev Hp:=Addr->Option HO
def upd (H:Hp)(a:Addr)(o:HO):Hp:=fun b=>if b=a then some o else H b
def aqm {H:Hp}{a:Addr}{o:HO}:upd H a o a=some o:=by unfold upd;rw[if_pos rfl]
def aqp {H:Hp}{a b:Addr}{o:HO}(h:b≠a):upd H a o b=H b:=by unfold upd;rw[if_neg h]
def tqk {H:Hp}{a:Addr}{o u:HO}:upd (upd H a o) a u=upd H a u:=by
 funext b;unfold upd;split <;> rfl
def zq7 {H:Hp}{a b:Addr}{o u:HO}(h:H a=some o)(h':H b=some u)(d:o≠u):a≠b:=by
 intro e;subst e;rw[h] at h';exact d (Option.some.inj h')
def aqn {H:Hp}{a b:Addr}{o:HO}(h:H a=some o)(h':H b=none):a≠b:=by
 intro e;subst e;rw[h] at h';cases h'
section
variable (P:Program)(w:World)
def ObjOk (H:Hp)(h:Heap)(a:Addr):HO->Prop
 |.lst xs=>xs.length≤sizeLine∧∃(its:List Value) (n:Nat),Vals xs its∧h.get? a=some {cls:=.type "list",data:=.seq its.toArray n}
 |.tup xs=>xs.length≤sizeLine∧∃its:List Value,Vals xs its∧IsTup h a its.toArray
 |.dK kvs=>kvs.length≤sizeLine∧(a == sysModules)=false∧∃vs,KV kvs vs∧h.DictOf (mixKind P w) a vs
 |.dT kvs=>kvs.length≤sizeLine∧(a == sysModules)=false∧∃xs:List (List Key×Addr×Value),
   Paired (fun (p:List Key×V) (q:List Key×Addr×Value)=>p.1=q.1∧H q.2.1=some (.tup (p.1.map kV))∧RelV p.2 q.2.2) kvs xs ∧
   ∃o es ep,h.get? a=some o∧o.ExactDict∧o.data=.dict es ep∧es.toList=xs.map (entryOfKey (tupleKind (mixKind P w)))∧(xs.map (·.1)).Nodup
 |.set S n=>h.SetOf (intKind P w) a S n
 |.ins C dx fs=>H dx=some (.own a)∧fs.length≤1000∧dx≠a∧h.get? a=some (PySem.W.instObj C dx) ∧
   ∃mA,h.Ns1 dx mA∧(∀f,RelO (fs.lookup f) (mA f))∧PySem.Within mA (fs.map (·.1))
 |.own _=>∃o,h.get? a=some o
 |.xd fs=>∃mA,h.Ns1 a mA∧∀f,RelO (fs.lookup f) (mA f)
 |.rng lo hi=>∃t u v,h.get? a=some {cls:=.type "range",data:=.fields #[.int lo t,.int hi u,.int 1 v]}
 |.frz o u=>h.get? a=some o∧ObjOk H h a u
 |.tbl ps=>h.get? a=some {cls:=.none,data:=.fields ps}
 |.met f x=>h.get? a=some (PySem.W.methodObj (.ref f) (.ref x))
 |.ext φ=>φ h∧(∃o,h.get? a=some o)∧∀h1 h2:Heap,φ h1->(∀o,h1.get? a=some o->h2.get? a=some o)->φ h2
def HOk (H:Hp)(h:Heap):Prop:=∀a o,H a=some o->ObjOk P w H h a o
end
section
variable {P:Program}{w:World}{H H':Hp}{h h':Heap}{a:Addr}{o:HO}
theorem ObjOk.lt (x:ObjOk P w H h a o):a < h.objs.size:=by
 cases o with
 |lst xs=>obtain⟨_,_,_,_,e⟩:=x;exact Heap.lt_size e
 |tup xs=>obtain⟨_,_,_,p⟩:=x;exact p.lt
 |dK kvs=>obtain⟨_,_,_,_,o,_,_,e,_⟩:=x;exact Heap.lt_size e
 |dT kvs=>obtain⟨_,_,_,_,o,_,_,e,_⟩:=x;exact Heap.lt_size e
 |set S n=>obtain⟨o,_,_,_,e,_⟩:=x;exact Heap.lt_size e
 |ins C dx fs=>obtain⟨_,_,_,e,_⟩:=x;exact Heap.lt_size e
 |own y=>obtain⟨_,e⟩:=x;exact Heap.lt_size e
 |xd fs=>obtain⟨_,⟨_,_,_,e,_⟩,_⟩:=x;exact Heap.lt_size e
 |rng lo hi=>obtain⟨_,_,_,e⟩:=x;exact Heap.lt_size e
 |frz ob u=>obtain⟨e,_⟩:=x;exact Heap.lt_size e
 |tbl ps=>exact Heap.lt_size (show h.get? a=some _ from x)
 |met f y=>exact Heap.lt_size (show h.get? a=some _ from x)
 |ext φ=>obtain⟨_,⟨_,e⟩,_⟩:=x;exact Heap.lt_size e
theorem Paired.mapP {α β:Type}{F G:α->β->Prop}:∀{l₁:List α}{l₂:List β},Paired F l₁ l₂->(∀a b,F a b->G a b)->Paired G l₁ l₂
 |_,_,.nil,_=>.nil
 |_,_,.cons r t,f=>.cons (f _ _ r) (Paired.mapP t f)
theorem ObjOk.stay (x:ObjOk P w H h a o)(k:∀b u,(b=a∨H b=some (.own a))->h.get? b=some u->h'.get? b=some u)
  (ho:∀b,H b=some (.own a)->H' b=some (.own a)) (ht:∀b xs,H b=some (.tup xs)->H' b=some (.tup xs)):ObjOk P w H' h' a o:=by
 induction o with
 |lst xs=>obtain⟨z,ac,n,r,e⟩:=x;exact⟨z,ac,n,r,k _ _ (.inl rfl) e⟩
 |tup xs=>obtain⟨z,ac,r,ob,e,c⟩:=x;exact⟨z,ac,r,ob,k _ _ (.inl rfl) e,c⟩
 |dK kvs=>obtain⟨z,y,vs,r,ob,es,ep,e,c⟩:=x;exact⟨z,y,vs,r,ob,es,ep,k _ _ (.inl rfl) e,c⟩
 |dT kvs=>
  obtain⟨z,y,xs,r,ob,es,ep,e,c⟩:=x
  exact⟨z,y,xs,Paired.mapP r fun p q z=>⟨z.1,ht _ _ z.2.1,z.2.2⟩,ob,es,ep,k _ _ (.inl rfl) e,c⟩
 |set S n=>obtain⟨ob,es,ep,t,e,c⟩:=x;exact⟨ob,es,ep,t,k _ _ (.inl rfl) e,c⟩
 |ins C dx fs=>
  obtain⟨d,z,ne,e,mA,⟨od,es,ep,e2,c⟩,r⟩:=x
  exact⟨ho _ d,z,ne,k _ _ (.inl rfl) e,mA,⟨od,es,ep,k _ _ (.inr d) e2,c⟩,r⟩
 |own y=>obtain⟨ob,e⟩:=x;exact⟨ob,k _ _ (.inl rfl) e⟩
 |xd fs=>obtain⟨mA,⟨od,es,ep,e,c⟩,r⟩:=x;exact⟨mA,⟨od,es,ep,k _ _ (.inl rfl) e,c⟩,r⟩
 |rng lo hi=>obtain⟨t,u,v,e⟩:=x;exact⟨t,u,v,k _ _ (.inl rfl) e⟩
 |frz ob u ih=>obtain⟨e,q⟩:=x;exact⟨k _ _ (.inl rfl) e,ih q⟩
 |tbl ps=>
  have e:h.get? a=some {cls:=.none,data:=.fields ps}:=x
  show h'.get? a=some {cls:=.none,data:=.fields ps}
  exact k a _ (.inl rfl) e
 |met f y=>
  have e:h.get? a=some (PySem.W.methodObj (.ref f) (.ref y)):=x
  show h'.get? a=some (PySem.W.methodObj (.ref f) (.ref y))
  exact k a _ (.inl rfl) e
 |ext φ=>obtain⟨p,⟨o,e⟩,st⟩:=x;exact⟨st _ _ p fun o q=>k _ _ (.inl rfl) q,⟨o,k _ _ (.inl rfl) e⟩,st⟩
def HOk.lt (x:HOk P w H h)(e:H a=some o):a < h.objs.size:=(x a o e).lt
theorem HOk.fresh (x:HOk P w H h)(e:h.objs.size≤a):H a=none:=by
 cases q:H a with
 |none=>rfl
 |some u=>exact absurd (Nat.lt_of_lt_of_le (x.lt q) e) (Nat.lt_irrefl _)
def HOk.kept (x:HOk P w H h)(k:∀b u,h.get? b=some u->h'.get? b=some u):HOk P w H h':=fun a o e=>
 (x a o e).stay (fun b u _ q=>k b u q) (fun _ q=>q) fun _ _ q=>q
def HOk.laid (x:HOk P w H h)(k:∀b u,h.get? b=some u->h'.get? b=some u)(hp:h.objs.size≤a)(new:ObjOk P w (upd H a o) h' a o):HOk P w (upd H a o) h':=fun b u e=>by
 have hn:=x.fresh hp
 by_cases hb:b=a
 ·subst hb;rw[aqm] at e;cases e;exact new
 ·rw[aqp hb] at e
  exact (x b u e).stay (fun c v _ q=>k c v q) (fun c q=>by rw[aqp (aqn q hn)];exact q) fun c xs q=>by rw[aqp (aqn q hn)];exact q
end
def Rd (H:Hp)(a:Addr)(u:HO):Prop:=H a=some u∨∃o,H a=some (.frz o u)
def Rd.ok {P:Program}{w:World}{H:Hp}{h:Heap}{a:Addr}{u:HO}(r:Rd H a u)(x:HOk P w H h):ObjOk P w H h a u:=by
 rcases r with r|⟨o,r⟩
 ·exact x a u r
 ·obtain⟨_,q⟩:=x a _ r
  exact q
def Mut:Option HO->Prop
 |some (.lst _)=>True
 |some (.dK _)=>True
 |some (.dT _)=>True
 |some (.set _ _)=>True
 |some (.ins _ _ _)=>True
 |some (.ext _)=>True
 |_=>False
section
variable {P:Program}{w:World}{H:Hp}{h h':Heap}{x e:Addr}{o':HO}
theorem HOk.write (ok:HOk P w H h)(mu:Mut (H x))(he:e=x∨H e=some (.own x))(k:∀b u,b≠e->h.get? b=some u->h'.get? b=some u)(heo:∃u,h'.get? e=some u)
  (new:ObjOk P w (upd H x o') h' x o'):HOk P w (upd H x o') h':=fun b u q=>by
 have nown:∀c y,H c=some (.own y)->c≠x:=fun c y r z=>by subst z;rw[r] at mu;exact mu
 have ntup:∀c xs,H c=some (.tup xs)->c≠x:=fun c xs r z=>by subst z;rw[r] at mu;exact mu
 by_cases hb:b=x
 ·subst hb;rw[aqm] at q;cases q;exact new
 ·rw[aqp hb] at q
  by_cases hbe:b=e
  ·have q':H b=some (.own x):=by
    rcases he with z|z
    ·exact absurd (hbe.trans z) hb
    ·rw[hbe];exact z
   rw[q] at q';cases q'
   obtain⟨v,hv⟩:=heo
   exact⟨v,by rw[hbe];exact hv⟩
  ·refine (ok b u q).stay (fun c v hc r=>k c v ?_ r) (fun c r=>by rw[aqp (nown c b r)];exact r) fun c xs r=>by rw[aqp (ntup c xs r)];exact r
   rcases hc with rfl|hc
   ·exact hbe
   ·rintro rfl
    rcases he with z|z
    ·exact nown c b hc z
    ·rw[hc] at z;cases z;exact hb rfl
end
structure Un (fs ex:List Addr)(H H':Hp)(h h':Heap):Prop where
 keep:∀b o,h.get? b=some o->H b=none->b∉fs->b∉ex->h'.get? b=some o
 slot:∀b o,h.get? b=some o->H b=none->b∈fs->b∉ex->∃sl,h'.get? b=some {o with slots:=sl}
 free:∀b o,h.get? b=some o->H b=none->b∉ex->H' b=none
 there:∀b o,h.get? b=some o->b∉ex->∃o',h'.get? b=some o'
 tups:∀b xs,H b=some (.tup xs)->H' b=some (.tup xs)
 frzs:∀b o u,H b=some (.frz o u)->H' b=some (.frz o u)
 tbls:∀b ps,H b=some (.tbl ps)->∃more,H' b=some (.tbl (ps++more))
section
variable {fs fs' ex ex':List Addr}{H H1 H2:Hp}{h h1 h2 h':Heap}{a x e:Addr}{o:HO}
def Un.any (u:Un fs ex H H1 h h1){b:Addr}{ob:Obj}(q:h.get? b=some ob)(n:H b=none)(hx:b∉ex):∃sl,h1.get? b=some {ob with slots:=sl}:=by
 by_cases hb:b∈fs
 ·exact u.slot b ob q n hb hx
 ·exact⟨ob.slots,u.keep b ob q n hb hx⟩
def Un.kept (k:∀b u,h.get? b=some u->h'.get? b=some u):Un fs ex H H h h':=
 ⟨fun b ob q _ _ _=>k b ob q,fun b ob q _ _ _=>⟨ob.slots,k b ob q⟩,fun _ _ _ n _=>n,fun b ob q _=>⟨ob,k b ob q⟩,fun _ _ q=>q,fun _ _ _ q=>q,fun _ ps q=>⟨#[],by rw[q];simp⟩⟩
def Un.refl:Un fs ex H H h h:=Un.kept fun _ _ q=>q
def Un.laid (k:∀b u,h.get? b=some u->h'.get? b=some u)(hp:h.objs.size≤a)(hn:H a=none):Un fs ex H (upd H a o) h h' where
 keep:=fun b u q _ _ _=>k b u q
 slot:=fun b u q _ _ _=>⟨u.slots,k b u q⟩
 free:=fun b u q n _=>by rw[aqp (Nat.ne_of_lt (Nat.lt_of_lt_of_le (Heap.lt_size q) hp))];exact n
 there:=fun b u q _=>⟨u,k b u q⟩
 tups:=fun b xs q=>by rw[aqp (aqn q hn)];exact q
 frzs:=fun b u xs q=>by rw[aqp (aqn q hn)];exact q
 tbls:=fun b ps q=>⟨#[],by rw[aqp (aqn q hn),q];simp⟩
theorem Un.write (mu:Mut (H x))(he:e=x∨H e=some (.own x))(k:∀b u,b≠e->h.get? b=some u->h'.get? b=some u)(heo:∃u,h'.get? e=some u):Un fs ex H (upd H x o) h h':=by
 have hx:∀b,H b=none->b≠x:=fun b n z=>by subst z;rw[n] at mu;exact mu
 have hb:∀b,H b=none->b≠e:=fun b n z=>by
  subst z
  rcases he with r|r
  ·exact hx b n r
  ·rw[n] at r;cases r
 have hm:∀b u,H b=some u->¬ Mut (some u)->b≠x:=fun b u q nm z=>by subst z;rw[q] at mu;exact nm mu
 refine⟨fun b u q n _ _=>k b u (hb b n) q,fun b u q n _ _=>⟨u.slots,k b u (hb b n) q⟩,fun b u q n _=>by rw[aqp (hx b n)];exact n,fun b u q _=>?_,
  fun b xs q=>by rw[aqp (hm b _ q fun z=>z)];exact q,fun b u xs q=>by rw[aqp (hm b _ q fun z=>z)];exact q,fun b ps q=>⟨#[],by rw[aqp (hm b _ q fun z=>z),q];simp⟩⟩
 by_cases ac:b=e
 ·subst ac;exact heo
 ·exact⟨u,k b u ac q⟩
end
def trk (h:Heap)(H:Hp):List Addr:=(List.range h.objs.size).filter fun a=>(H a).isSome
def hidT (h:Heap)(H:Hp):Heap:=PySem.W.hideAll h (trk h H)
def tqY (h:Heap)(H:Hp):(hidT h H).objs.size=h.objs.size:=PySem.W.hideAll_size _ _
def uqZ {h:Heap}{H:Hp}{b:Addr}{o:Obj}(e:h.get? b=some o)(n:H b=none):(hidT h H).get? b=some o:=
 PySem.W.hideAll_get _ e fun hm=>by
  have q:(H b).isSome=true:=(mem_filter.mp hm).2
  rw[n] at q;simp at q
theorem wqR {h:Heap}{H:Hp}{b:Addr}{o:Obj}(e:(hidT h H).get? b=some o):h.get? b=some o∧H b=none:=by
 have e':h.get? b=some o:=PySem.W.of_hideAll (trk h H) e
 refine⟨e',?_⟩
 cases q:H b with
 |none=>rfl
 |some x=>
  have hm:b∈trk h H:=mem_filter.mpr ⟨mem_range.mpr (Heap.lt_size e'),by simp[q]⟩
  have z:(hidT h H).get? b=none:=PySem.W.hideAll_none (trk h H) hm
  rw[z] at e;cases e
def allNews (g h:Heap)(L:Addr):List (Addr×Obj):=(List.range h.objs.size).filterMap fun a=>if a=L∨(g.get? a).isSome=true then none else (h.get? a).map fun o=>(a,o)
def rest (g h:Heap)(L d:Addr):List (Addr×Obj):=(allNews g h L).filter fun p=>decide (p.1≠d)
structure Mod (K:W.Frag)(mg:Str->Option Value)(base:Heap):Prop where
 kin:K.In base
 glob:base.Ns mainGlobals mg
 blt:∃mb,base.Ns builtinsNs mb∧∀x:Str,x ≠ "__name__" -> mb x=bootBuiltins x
 nolimit:base.NoLimit
structure Cx where
 prog:Program
 w:World
 K:W.Frag
 mg:Str->Option Value
 base:Heap
 A:Around
 N:List Str
 s₀:Shared
 H₀:Hp
 env:Env
 outer:List Env
 stack:List Env
 ex:List Addr
 fn:Str->Bool
 calm:Bool
 pn:List (Addr×Obj)
 xe:Value->Shared->Prop
def frs (l:List Env):List Addr:=l.filterMap (·.frame)
abbrev Cx.fs (X:Cx):List Addr:=frs X.outer
def Vis (sc:Scope)(x:Str):Prop:=sc.names.lookup x=some .local∨sc.names.lookup x=some .cell∨sc.names.lookup x=some .free
def Loc (sc:Scope)(x:Str):Prop:=sc.names.lookup x=some .local∨sc.names.lookup x=some .cell
def Look (env:Env)(h:Heap)(m:Str->Option Value)(x:Str)(u:Value):Prop:=
 (env.kindOf x=some .local∧m x=some u)∨((env.kindOf x=some .cell∨env.kindOf x=some .free)∧∃c,env.cells.lookup x=some c∧h.IsCell c (some u))
structure Cx.Ok (X:Cx):Prop where
 mod:Mod X.K X.mg X.base
 kind:X.env.scope.kind=.function
 glob:X.env.globals=mainGlobals
 blt:X.env.builtins=builtinsNs
 above:X.s₀.heap.objs.size≤X.env.locals
 inj:∀x y c,X.env.cells.lookup x=some c->X.env.cells.lookup y=some c->x=y
 has:∀x,(X.env.kindOf x=some .cell∨X.env.kindOf x=some .free)->∃c,X.env.cells.lookup x=some c
 cab:∀x c,X.fn x=true->X.env.cells.lookup x=some c->X.s₀.heap.objs.size≤c
 hd:X.calm=true->X.A.handled=none
 frames:X.A.frames=some X.stack
 stk:X.stack=X.outer∨(X.stack=X.env::X.outer∧X.env.frame=some X.env.locals)
 exf:∀b∈X.ex,b≠X.env.locals∧∀x c,X.env.cells.lookup x=some c->c≠b
 bs:∀b o,X.base.get? b=some o->X.s₀.heap.get? b=some o∧X.H₀ b=none
 bsz:X.base.objs.size≤X.s₀.heap.objs.size
 noex:∀b o,X.base.get? b=some o->b∉X.ex
 exfs:∀b∈X.ex,b∉X.fs
 funs:X.s₀.heap.FunFrames X.base X.outer
 frf:∀b∈X.fs,X.H₀ b=none
structure Inv (X:Cx)(pins:List (Addr×Obj))(σ:List (Option V))(H:Hp)(s:Shared):Prop where
 ok:X.Ok
 os:s.os=X.s₀.os
 bare:AllBare s.gens
 base:Un X.fs X.ex X.H₀ H X.s₀.heap s.heap
 loc:∃m,s.heap.Ns X.env.locals m∧∀(i:Nat) (x:Str) (v:V),X.N[i]?=some x->σ[i]?=some (some v)->Vis X.env.scope x->∃u,RelV v u∧Look X.env s.heap m x u
 cell:∀x c,X.env.cells.lookup x=some c->∃v,s.heap.IsCell c v
 free:H X.env.locals=none
 freeC:∀x c,X.env.cells.lookup x=some c->H c=none
 pin:∀p∈X.pn++pins,s.heap.get? p.1=some p.2∧H p.1=none∧p.1≠X.env.locals∧p.1∉X.fs∧∀v,p.2.data≠.cell v
 hok:HOk X.prog X.w H s.heap
 len:σ.length=X.N.length
section
variable {X:Cx}{pins:List (Addr×Obj)}{σ:List (Option V)}{H H':Hp}{s:Shared}{h':Heap}
def Cx.Ok.nofr (ok:X.Ok){b:Addr}{o:Obj}(e:X.base.get? b=some o):b∉X.fs:=fun hb=>by
 have:=(ok.funs.mem hb).1
 rw[e] at this;cases this
def Inv.bs (I:Inv X pins σ H s):∀b o,X.base.get? b=some o->s.heap.get? b=some o∧H b=none:=fun b o e=>
 ⟨I.base.keep b o (I.ok.bs b o e).1 (I.ok.bs b o e).2 (I.ok.nofr e) (I.ok.noex b o e),I.base.free b o (I.ok.bs b o e).1 (I.ok.bs b o e).2 (I.ok.noex b o e)⟩
def Inv.bk (I:Inv X pins σ H s):∀b o,X.base.get? b=some o->s.heap.get? b=some o:=fun b o e=>(I.bs b o e).1
def Inv.mod (I:Inv X pins σ H s):Mod X.K X.mg X.base:=I.ok.mod
def Inv.kIn (I:Inv X pins σ H s):X.K.In s.heap:=I.ok.mod.kin.keeps I.bk
def Inv.lt (I:Inv X pins σ H s):X.env.locals < s.heap.objs.size:=let ⟨_,hn,_⟩:=I.loc;hn.lt
def Inv.sz (I:Inv X pins σ H s):X.s₀.heap.objs.size≤s.heap.objs.size:=Nat.le_trans I.ok.above (Nat.le_of_lt I.lt)
def Inv.nofs (I:Inv X pins σ H s){a:Addr}(h:s.heap.objs.size≤a):a∉X.fs:=fun hb=>by
 obtain⟨_,o,ho,_⟩:=I.ok.funs.mem hb
 exact absurd (Nat.lt_of_lt_of_le (Heap.lt_size ho) (Nat.le_trans I.sz h)) (Nat.lt_irrefl _)
def Inv.cne (I:Inv X pins σ H s):∀x c,X.env.cells.lookup x=some c->c≠X.env.locals:=fun x c e z=>by
 obtain⟨v,o,ho,hd⟩:=I.cell x c e
 obtain⟨m,⟨o',es,ep,ho',hd',_⟩,_⟩:=I.loc
 rw[z,ho'] at ho;cases ho;rw[hd'] at hd;cases hd
theorem Inv.funs (I:Inv X pins σ H s):s.heap.FunFrames X.base X.outer:=by
 have ac:∀(l:List Env),(∀b∈frs l,b∈X.fs)->X.s₀.heap.FunFrames X.base l->s.heap.FunFrames X.base l:=by
  intro l
  induction l with
  |nil=>intro _ _;trivial
  |cons env r ih=>
   intro hs hl
   obtain⟨hk,⟨L,o,hf,hn,ho,hd⟩,hr⟩:=hl
   have hL:L∈X.fs:=hs L (by unfold frs;rw[filterMap_cons,hf];exact mem_cons_self)
   obtain⟨sl,e⟩:=I.base.slot L o ho (I.ok.frf L hL) hL fun z=>I.ok.exfs L z hL
   exact⟨hk,⟨L,_,hf,hn,e,hd⟩,ih (fun b hb=>hs b (by unfold frs;rw[filterMap_cons,hf];exact mem_cons_of_mem _ hb)) hr⟩
 exact ac X.outer (fun _ hb=>hb) I.ok.funs
def Inv.stack (I:Inv X pins σ H s):s.heap.FunFrames X.base X.stack:=by
 rcases I.ok.stk with e|⟨e,hf⟩
 ·rw[e];exact I.funs
 ·rw[e]
  obtain⟨m,hn,_⟩:=I.loc
  refine .cons (by rw[I.ok.kind];decide) hf hn ?_ I.funs
  exact Heap.get?_none_of_le (Nat.le_trans I.ok.bsz I.ok.above)
def Inv.stkSub (I:Inv X pins σ H s):∀b∈frs X.stack,b∈X.env.locals::X.fs:=fun b hb=>by
 rcases I.ok.stk with e|⟨e,hf⟩
 ·rw[e] at hb;exact mem_cons_of_mem _ hb
 ·rw[e] at hb
  unfold frs at hb
  rw[filterMap_cons,hf] at hb
  exact hb
def Inv.stkFree (I:Inv X pins σ H s):∀b∈frs X.stack,H b=none:=fun b hb=>by
 rcases mem_cons.mp (I.stkSub b hb) with e|hb
 ·rw[e];exact I.free
 ·obtain⟨_,o,ho,_⟩:=I.ok.funs.mem hb
  exact I.base.free b o ho (I.ok.frf b hb) fun z=>I.ok.exfs b z hb
theorem Inv.step {g':Array GenState}{t':Nat}{d':Drawn}{ch:List Addr}(I:Inv X pins σ H s)
  (hch:∀b∈ch,(b∈X.ex∨X.s₀.heap.objs.size≤b)∧b≠X.env.locals∧(∀x c,X.env.cells.lookup x=some c->c≠b)∧∀p∈X.pn++pins,p.1≠b)
  (keep:∀b o,b≠X.env.locals->b∉X.fs->b∉ch->s.heap.get? b=some o->H b=none->h'.get? b=some o)
  (slot:∀b o,b≠X.env.locals->b∈X.fs->b∉ch->s.heap.get? b=some o->H b=none->∃sl,h'.get? b=some {o with slots:=sl}) (free:∀b o,b∉ch->s.heap.get? b=some o->H b=none->H' b=none)
  (there:∀b o,b∉ch->s.heap.get? b=some o->∃o',h'.get? b=some o')
  (tups:∀b xs,H b=some (.tup xs)->H' b=some (.tup xs)) (frzs:∀b o u,H b=some (.frz o u)->H' b=some (.frz o u)) (tbls:∀b ps,H b=some (.tbl ps)->∃more,H' b=some (.tbl (ps++more)))
  (ns:∀m,s.heap.Ns X.env.locals m->h'.Ns X.env.locals m) (hok:HOk X.prog X.w H' h') (hg:AllBare g') :
  Inv X pins σ H' { s with heap:=h',gens:=g',drawn:=d',toks:=t' }:=by
 have af:∀b o,X.s₀.heap.get? b=some o->b≠X.env.locals:=fun b o e=>Nat.ne_of_lt (Nat.lt_of_lt_of_le (Heap.lt_size e) I.ok.above)
 have ae:∀b o,X.s₀.heap.get? b=some o->b∉X.ex->b∉ch:=fun b o e hx hb=>by
  rcases (hch b hb).1 with z|z
  ·exact hx z
  ·exact absurd (Nat.lt_of_lt_of_le (Heap.lt_size e) z) (Nat.lt_irrefl _)
 have ac:∀x c,X.env.cells.lookup x=some c->∀v,s.heap.IsCell c v->h'.IsCell c v:=fun x c e v ⟨o,ho,hd⟩=>by
  have ad:c∉ch:=fun z=>(hch c z).2.2.1 x c e rfl
  by_cases hc:c∈X.fs
  ·obtain⟨sl,q⟩:=slot c o (I.cne x c e) hc ad ho (I.freeC x c e)
   exact⟨_,q,hd⟩
  ·exact⟨o,keep c o (I.cne x c e) hc ad ho (I.freeC x c e),hd⟩
 refine⟨I.ok,I.os,hg,⟨fun b o e n hb hx=>?_,fun b o e n hb hx=>?_,fun b o e n hx=>?_,fun b o e hx=>?_,fun b xs e=>tups b xs (I.base.tups b xs e),fun b o xs e=>frzs b o xs (I.base.frzs b o xs e),fun b ps e=>?_⟩,?_,fun x c e=>?_,?_,fun x c e=>?_,fun p hp=>?_,hok,I.len⟩
 ·exact keep b o (af b o e) hb (ae b o e hx) (I.base.keep b o e n hb hx) (I.base.free b o e n hx)
 ·obtain⟨sl,e1⟩:=I.base.slot b o e n hb hx
  obtain⟨ag,e2⟩:=slot b _ (af b o e) hb (ae b o e hx) e1 (I.base.free b o e n hx)
  exact⟨ag,e2⟩
 ·obtain⟨o',e1⟩:=I.base.there b o e hx
  exact free b o' (ae b o e hx) e1 (I.base.free b o e n hx)
 ·obtain⟨o',e1⟩:=I.base.there b o e hx
  exact there b o' (ae b o e hx) e1
 ·obtain⟨m1,e1⟩:=I.base.tbls b ps e
  obtain⟨m2,e2⟩:=tbls b _ e1
  exact⟨m1++m2,by rw[e2,Array.append_assoc]⟩
 ·obtain⟨m,hn,hl⟩:=I.loc
  refine⟨m,ns m hn,fun i x v e1 e2 e3=>?_⟩
  obtain⟨u,r,l⟩:=hl i x v e1 e2 e3
  refine⟨u,r,?_⟩
  rcases l with l|⟨k,c,e,z⟩
  ·exact .inl l
  ·exact .inr ⟨k,c,e,ac x c e _ z⟩
 ·obtain⟨v,z⟩:=I.cell x c e
  exact⟨v,ac x c e v z⟩
 ·obtain⟨m,⟨o,_,_,ho,_⟩,_⟩:=I.loc
  exact free _ o (fun z=>(hch _ z).2.1 rfl) ho I.free
 ·obtain⟨v,o,ho,hd⟩:=I.cell x c e
  exact free c o (fun z=>(hch c z).2.2.1 x c e rfl) ho (I.freeC x c e)
 ·obtain⟨e,n,ne,nf,d⟩:=I.pin p hp
  have ad:p.1∉ch:=fun z=>(hch p.1 z).2.2.2 p hp rfl
  exact⟨keep p.1 p.2 ne nf ad e n,free p.1 p.2 ad e n,ne,nf,d⟩
theorem Inv.un {t':Nat}(I:Inv X pins σ H s)(u:Un X.fs [] H H' s.heap h')(hok:HOk X.prog X.w H' h'):Inv X pins σ H' { s with heap:=h',toks:=t' }:=by
 obtain⟨m,⟨o,es,ep,ho,r⟩,_⟩:=id I.loc
 obtain⟨sl,hL⟩:=u.any ho I.free (by simp)
 exact I.step (g':=s.gens) (d':=s.drawn) (ch:=[]) (fun _ z=>nomatch z) (fun b o _ hb _ e n=>u.keep b o e n hb (by simp)) (fun b o _ hb _ e n=>u.slot b o e n hb (by simp)) (fun b o _ e n=>u.free b o e n (by simp)) (fun b o _ e=>u.there b o e (by simp)) u.tups u.frzs u.tbls (fun m' hm=>by
  obtain⟨o',ad,ae,ac,r'⟩:=hm
  rw[ho] at ac;cases ac
  exact⟨_,ad,ae,hL,r'⟩) hok I.bare
theorem Inv.call {g':Array GenState}{t':Nat}{d':Drawn}{ch:List Addr}(I:Inv X pins σ H s)(u:Un (frs X.stack) ch H H' s.heap h')(hok:HOk X.prog X.w H' h')(hg:AllBare g')
  (hch:∀b∈ch,(b∈X.ex∨X.s₀.heap.objs.size≤b)∧b≠X.env.locals∧(∀x c,X.env.cells.lookup x=some c->c≠b)∧∀p∈X.pn++pins,p.1≠b) :
  Inv X pins σ H' { s with heap:=h',gens:=g',drawn:=d',toks:=t' }:=by
 obtain⟨m,⟨o,es,ep,ho,r⟩,_⟩:=id I.loc
 obtain⟨sl,hL⟩:=u.any ho I.free fun z=>(hch _ z).2.1 rfl
 exact I.step (ch:=ch) hch (fun b o hL hb hc e n=>u.keep b o e n (fun z=>(mem_cons.mp (I.stkSub b z)).elim hL hb) hc) (fun b o _ _ hc e n=>u.any e n hc) (fun b o hc e n=>u.free b o e n hc) (fun b o hc e=>u.there b o e hc) u.tups u.frzs u.tbls (fun m' hm=>by
  obtain⟨o',ad,ae,ac,r'⟩:=hm
  rw[ho] at ac;cases ac
  exact⟨_,ad,ae,hL,r'⟩) hok hg
theorem Inv.turned {t':Nat}{it:Addr}(I:Inv X pins σ H s)(k:∀b o,b≠it->s.heap.get? b=some o->h'.get? b=some o)(hn:H it=none)(hL:it≠X.env.locals)
  (h1:it∈X.ex∨X.s₀.heap.objs.size≤it) (h2:∀x c,X.env.cells.lookup x=some c->c≠it) (h3:∀p∈X.pn++pins,p.1≠it):Inv X pins σ H {s with heap:=h',toks:=t' }:=by
 have ac:∀b u,H b=some u->b≠it:=fun b u e z=>by rw[z,hn] at e;cases e
 refine I.step (g':=s.gens) (d':=s.drawn) (ch:=[it]) (fun b hb=>?_) (fun b o _ _ hc e _=>k b o (fun z=>hc (by simp[z])) e) (fun b o _ _ hc e _=>⟨o.slots,k b o (fun z=>hc (by simp[z])) e⟩) (fun _ _ _ _ n=>n)
  (fun b o hc e=>⟨o,k b o (fun z=>hc (by simp[z])) e⟩) (fun _ _ e=>e) (fun _ _ _ e=>e) (fun b ps e=>⟨#[],by rw[e];simp⟩) (fun m hm=>?_) (fun b u e=>?_) I.bare
 ·have e:b=it:=by simpa using hb
  subst e
  exact⟨h1,hL,h2,h3⟩
 ·obtain⟨o,es,ep,ho,r⟩:=hm
  exact⟨o,es,ep,k _ o (Ne.symm hL) ho,r⟩
 ·refine (I.hok b u e).stay (fun c v hc q=>k c v ?_ q) (fun _ q=>q) fun _ _ q=>q
  rcases hc with z|z
  ·rw[z];exact ac b u e
  ·exact ac c _ z
def Inv.tok (I:Inv X pins σ H s)(t:Nat):Inv X pins σ H {s with toks:=t}:=I.un (h':=s.heap) (t':=t) Un.refl I.hok
def Inv.kept {t':Nat}(I:Inv X pins σ H s)(k:∀b u,s.heap.get? b=some u->h'.get? b=some u):Inv X pins σ H {s with heap:=h',toks:=t' }:=I.un (Un.kept k) (I.hok.kept k)
def Inv.laid {a:Addr}{o:HO}{t':Nat}(I:Inv X pins σ H s)(k:∀b u,s.heap.get? b=some u->h'.get? b=some u)(hp:s.heap.objs.size≤a)(new:ObjOk X.prog X.w (upd H a o) h' a o) :
  Inv X pins σ (upd H a o) {s with heap:=h',toks:=t' }:=I.un (Un.laid k hp (I.hok.fresh hp)) (I.hok.laid k hp new)
def Inv.write {x e:Addr}{o:HO}{t':Nat}(I:Inv X pins σ H s)(mu:Mut (H x))(he:e=x∨H e=some (.own x))(k:∀b u,b≠e->s.heap.get? b=some u->h'.get? b=some u)(heo:∃u,h'.get? e=some u)
  (new:ObjOk X.prog X.w (upd H x o) h' x o):Inv X pins σ (upd H x o) {s with heap:=h',toks:=t' }:=I.un (Un.write mu he k heo) (I.hok.write mu he k heo new)
def Inv.pins_of {pins':List (Addr×Obj)}(I:Inv X pins σ H s)(h:∀p∈pins',s.heap.get? p.1=some p.2∧H p.1=none∧p.1≠X.env.locals∧p.1∉X.fs∧∀v,p.2.data≠.cell v):Inv X pins' σ H s:=
 ⟨I.ok,I.os,I.bare,I.base,I.loc,I.cell,I.free,I.freeC,fun p hp=>(mem_append.mp hp).elim (fun z=>I.pin p (mem_append_left _ z)) (h p),I.hok,I.len⟩
def nqD {N:List Str}(hN:N.Nodup){i j:Nat}{x:Str}(a:N[i]?=some x)(b:N[j]?=some x):i=j:=by
 obtain⟨h1,e1⟩:=List.getElem?_eq_some_iff.mp a
 obtain⟨h2,e2⟩:=List.getElem?_eq_some_iff.mp b
 exact (List.getElem_inj hN).mp (e1.trans e2.symm)
theorem oqO {M:Model}{A:Around}{E:Value->Shared->Prop}{i:Nat}{x:Str}{v:V}{u:Value}{Q:Unit->Shared->Prop}(I:Inv X pins σ H s)(hN:X.N.Nodup)(hi:X.N[i]?=some x)(hx:Loc X.env.scope x)(r:RelV v u)
  (h:∀s',Inv X pins (σ.set i (some v)) H s'->(∃a,Heap.SameBut a s.heap s'.heap∧(a=X.env.locals∨X.env.cells.lookup x=some a))->Q () s') (hf:X.fn x=true∨X.env.scope.names.lookup x=some .local:=by first|exact .inl rfl|exact .inr rfl|assumption):wpAny M A (storeName X.env x u) Q E s:=by
 obtain⟨m,hn,hl⟩:=id I.loc
 have ag:(X.env.scope.kind == .class || (X.env.scope.kind == .module && X.env.locals != X.env.globals))=false:=by rw[I.ok.kind];rfl
 have hiσ:i < σ.length:=by rw[I.len];exact (List.getElem?_eq_some_iff.mp hi).1
 have al:=I.cne
 have ac:∀{a:Addr}{h':Heap},(∃o,s.heap.get? a=some o∧H a=none)->Heap.SameBut a s.heap h'->HOk X.prog X.w H h':=fun {a h'} ha hs b ob e=>by
  obtain⟨_,_,ad⟩:=ha
  refine (I.hok b ob e).stay (fun c w' hc q=>(hs.2 c ?_).trans q) (fun _ q=>q) fun _ _ q=>q
  rintro rfl
  rcases hc with rfl|hc
  ·rw[ad] at e;cases e
  ·rw[ad] at hc;cases hc
 rcases hx with hk|hk
 ·refine wpAny_storeName_local hk hn (fun h' ao hs=>?_) ag
  obtain⟨oL,_,_,am,_⟩:=id hn
  refine h _ ⟨I.ok,I.os,I.bare,⟨fun b o e n hb hx=>?_,fun b o e n hb hx=>?_,I.base.free,fun b o e hx=>?_,I.base.tups,I.base.frzs,I.base.tbls⟩,⟨_,ao,fun j y v' e1 e2 e3=>?_⟩,fun y c e=>?_,I.free,I.freeC,fun p hp=>?_,ac ⟨oL,am,I.free⟩ hs,by simpa using I.len⟩ ⟨_,hs,.inl rfl⟩
  ·exact (hs.2 b (Nat.ne_of_lt (Nat.lt_of_lt_of_le (Heap.lt_size e) I.ok.above))).trans (I.base.keep b o e n hb hx)
  ·obtain⟨sl,e1⟩:=I.base.slot b o e n hb hx
   exact⟨sl,(hs.2 b (Nat.ne_of_lt (Nat.lt_of_lt_of_le (Heap.lt_size e) I.ok.above))).trans e1⟩
  ·obtain⟨o',e1⟩:=I.base.there b o e hx
   exact⟨o',(hs.2 b (Nat.ne_of_lt (Nat.lt_of_lt_of_le (Heap.lt_size e) I.ok.above))).trans e1⟩
  ·by_cases hj:j=i
   ·subst hj
    rw[hi] at e1;cases e1
    rw[List.getElem?_set_self hiσ] at e2
    cases e2
    exact⟨u,r,.inl ⟨hk,by simp⟩⟩
   ·rw[List.getElem?_set_ne (Ne.symm hj)] at e2
    obtain⟨u',r',q⟩:=hl j y v' e1 e2 e3
    refine⟨u',r',?_⟩
    rcases q with⟨k,e⟩|⟨k,c,e,z⟩
    ·refine .inl ⟨k,?_⟩
     have:y≠x:=fun e=>hj (nqD hN e1 (e▸hi))
     simp[this,e]
    ·exact .inr ⟨k,c,e,z.sameBut hs (al y c e)⟩
  ·obtain⟨w',z⟩:=I.cell y c e
   exact⟨w',z.sameBut hs (al y c e)⟩
  ·obtain⟨e,n,ne,nf,d⟩:=I.pin p hp
   exact⟨(hs.2 p.1 ne).trans e,n,ne,nf,d⟩
 ·have af:X.fn x=true:=by
   rcases hf with z|z
   ·exact z
   ·rw[z] at hk;cases hk
  obtain⟨c,hc⟩:=I.ok.has x (.inl hk)
  obtain⟨w',z⟩:=I.cell x c hc
  refine wpAny_storeName_cell I.ok.kind hk hc z (fun h' aj hs=>?_)
  obtain⟨oc,ah,ae⟩:=id z
  refine h {s with heap:=h' } ⟨I.ok,I.os,I.bare,⟨fun b o e n hb hx=>?_,fun b o e n hb hx=>?_,I.base.free,fun b o e hx=>?_,I.base.tups,I.base.frzs,I.base.tbls⟩,⟨m,hn.sameBut hs (Ne.symm (al x c hc)),fun j y v' e1 e2 e3=>?_⟩,fun y c' e=>?_,I.free,I.freeC,fun p hp=>?_,ac ⟨oc,ah,I.freeC x c hc⟩ hs,by simpa using I.len⟩ ⟨c,hs,.inr hc⟩
  ·exact (hs.2 b (Nat.ne_of_lt (Nat.lt_of_lt_of_le (Heap.lt_size e) (I.ok.cab x c af hc)))).trans (I.base.keep b o e n hb hx)
  ·obtain⟨sl,e1⟩:=I.base.slot b o e n hb hx
   exact⟨sl,(hs.2 b (Nat.ne_of_lt (Nat.lt_of_lt_of_le (Heap.lt_size e) (I.ok.cab x c af hc)))).trans e1⟩
  ·obtain⟨o',e1⟩:=I.base.there b o e hx
   exact⟨o',(hs.2 b (Nat.ne_of_lt (Nat.lt_of_lt_of_le (Heap.lt_size e) (I.ok.cab x c af hc)))).trans e1⟩
  ·by_cases hj:j=i
   ·subst hj
    rw[hi] at e1;cases e1
    rw[List.getElem?_set_self hiσ] at e2
    cases e2
    exact⟨u,r,.inr ⟨.inl hk,c,hc,aj⟩⟩
   ·rw[List.getElem?_set_ne (Ne.symm hj)] at e2
    obtain⟨u',r',q⟩:=hl j y v' e1 e2 e3
    refine⟨u',r',?_⟩
    rcases q with q|⟨k,c',e,z'⟩
    ·exact .inl q
    ·refine .inr ⟨k,c',e,z'.sameBut hs ?_⟩
     rintro rfl
     exact hj (nqD hN e1 (I.ok.inj _ _ _ e hc▸hi))
  ·by_cases ai:c'=c
   ·subst ai;exact⟨_,aj⟩
   ·obtain⟨w2,z2⟩:=I.cell y c' e
    exact⟨w2,z2.sameBut hs ai⟩
  ·obtain⟨e,n,ne,nf,d⟩:=I.pin p hp
   refine⟨(hs.2 p.1 ?_).trans e,n,ne,nf,d⟩
   intro q
   rw[q,ah] at e
   have q':oc=p.2:=Option.some.inj e
   exact d w' (by rw[<- q'];exact ae)
def kqX {M:Model}{A:Around}{E:Value->Shared->Prop}{i:Nat}{x:Str}{v:V}{u:Value}{Q:Unit->Shared->Prop}(I:Inv X pins σ H s)(hN:X.N.Nodup)(hi:X.N[i]?=some x)(hx:Loc X.env.scope x)(r:RelV v u)
  (h:∀s',Inv X pins (σ.set i (some v)) H s'->Q () s') (hf:X.fn x=true∨X.env.scope.names.lookup x=some .local:=by first|exact .inl rfl|exact .inr rfl|assumption):wpAny M A (storeName X.env x u) Q E s:=
 oqO I hN hi hx r (fun s' I' _=>h s' I') hf
def Inv.call' {s':Shared}{ch:List Addr}(I:Inv X pins σ H s)(ho:s'.os=s.os)(u:Un (frs X.stack) ch H H' s.heap s'.heap)(hok:HOk X.prog X.w H' s'.heap)(hg:AllBare s'.gens)
  (hch:∀b∈ch,(b∈X.ex∨X.s₀.heap.objs.size≤b)∧b≠X.env.locals∧(∀x c,X.env.cells.lookup x=some c->c≠b)∧∀p∈X.pn++pins,p.1≠b):Inv X pins σ H' s':=by
 obtain⟨h',g',d',t',o'⟩:=s'
 have e:o'=s.os:=ho
 subst e
 exact I.call (g':=g') (t':=t') (d':=d') u hok hg hch
end
abbrev XK:=Value->Option Addr->Hp->Prop
abbrev St:=List (Option V)
abbrev VK:=V->Hp->Prop
abbrev TE:=St->Hp->VK->Prop
abbrev TT:=St->Hp->(Bool->Hp->Prop)->Prop
abbrev TA:=St->Hp->(List V->Hp->Prop)->Prop
structure Ends where
 nx:St->Hp->Prop
 rt:VK
 bk:St->Hp->Prop:=fun _ _=>False
 ct:St->Hp->Prop:=fun _ _=>False
abbrev TS:=Ends->St->Hp->Prop
def EP (X:Cx)(pins:List (Addr×Obj))(σ:St)(Q:VK)(u:Value)(s':Shared):Prop:=∃v H',Inv X pins σ H' s'∧RelV v u∧Q v H'
def TP (X:Cx)(pins:List (Addr×Obj))(σ:St)(Q:Bool->Hp->Prop)(b:Bool)(s':Shared):Prop:=∃H',Inv X pins σ H' s'∧Q b H'
def AP (X:Cx)(pins:List (Addr×Obj))(σ:St)(Q:List V->Hp->Prop)(us:List Value)(s':Shared):Prop:=∃vs H',Inv X pins σ H' s'∧Vals vs us∧Q vs H'
def SP (X:Cx)(pins:List (Addr×Obj))(D:Ends)(f:Flow)(s':Shared):Prop:=
 match f with
 |.next=>∃σ' H',Inv X pins σ' H' s'∧D.nx σ' H'
 |.brk=>∃σ' H',Inv X pins σ' H' s'∧D.bk σ' H'
 |.cont=>∃σ' H',Inv X pins σ' H' s'∧D.ct σ' H'
 |.ret u=>∃v σ' H',Inv X pins σ' H' s'∧RelV v u∧D.rt v H'
def PE (X:Cx)(e:Expr)(t:TE):Prop:=
 ∀(pins:List (Addr×Obj)) (s:Shared) (σ:St) (H:Hp) (Q:VK),Inv X pins σ H s->t σ H Q->wpAny (model X.prog X.w) X.A (eval e X.env) (EP X pins σ Q) X.xe s
def PT (X:Cx)(e:Expr)(t:TT):Prop:=
 ∀(pins:List (Addr×Obj)) (s:Shared) (σ:St) (H:Hp) (Q:Bool->Hp->Prop),Inv X pins σ H s->t σ H Q->wpAny (model X.prog X.w) X.A (isTrue e X.env (eval e X.env)) (TP X pins σ Q) X.xe s
def PW (X:Cx)(e:Expr)(t:TT):Prop:=
 ∀(whole:Sem Value) (pins:List (Addr×Obj)) (s:Shared) (σ:St) (H:Hp) (Q:Bool->Hp->Prop),Inv X pins σ H s->t σ H Q->wpAny (model X.prog X.w) X.A (isTrue e X.env whole) (TP X pins σ Q) X.xe s
def PW.pt {X:Cx}{e:Expr}{t:TT}(h:PW X e t):PT X e t:=h _
def PA (X:Cx)(es:List Expr)(t:TA):Prop:=
 ∀(pos:Pos) (pins:List (Addr×Obj)) (s:Shared) (σ:St) (H:Hp) (Q:List V->Hp->Prop),Inv X pins σ H s->t σ H Q->wpAny (model X.prog X.w) X.A (spliced (backTo pos (starEach es X.env))) (AP X pins σ Q) X.xe s
def PS (X:Cx)(st:Stmt)(t:TS):Prop:=
 ∀(pins:List (Addr×Obj)) (s:Shared) (σ:St) (H:Hp) (D:Ends),Inv X pins σ H s->t D σ H->wpAny (model X.prog X.w) X.A (exec st X.env) (SP X pins D) X.xe s
def PSs (X:Cx)(st:List Stmt)(t:TS):Prop:=
 ∀(pins:List (Addr×Obj)) (s:Shared) (σ:St) (H:Hp) (D:Ends),Inv X pins σ H s->t D σ H->wpAny (model X.prog X.w) X.A (execs st X.env) (SP X pins D) X.xe s
def thn {α:Type}{t:Sem α}{Q Q':α->Shared->Prop}{M:Model}{A:Around}{E:Value->Shared->Prop}{s:Shared}(h:wpAny M A t Q E s)(hQ:∀a s,Q a s->Q' a s):wpAny M A t Q' E s:=wpAny_mono h hQ fun _ _ x=>x
section
variable {X:Cx}
theorem bin {a b:Expr}{ta tb:TE}(ha:PE X a ta)(hb:PE X b tb){pins:List (Addr×Obj)}{s:Shared}{σ:St}{H:Hp}{R:V->V->Hp->Prop}(I:Inv X pins σ H s)(h:ta σ H fun x H1=>tb σ H1 fun y H2=>R x y H2)
  {α:Type}{Q:α->Shared->Prop}{f:Value->Value->Sem α}
  (hf:∀v u s2 x y H2,Inv X pins σ H2 s2->RelV x v->RelV y u->R x y H2->wpAny (model X.prog X.w) X.A (f v u) Q X.xe s2) :
  wpAny (model X.prog X.w) X.A (eval a X.env) (fun v s₁=>wpAny (model X.prog X.w) X.A (eval b X.env) (fun u s₂=>wpAny (model X.prog X.w) X.A (f v u) Q X.xe s₂) X.xe s₁) X.xe s:=by
 refine thn (ha pins s σ H _ I h) fun v s1 W'=>?_
 obtain⟨x,H1,I1,r1,q1⟩:=W'
 refine thn (hb pins s1 σ H1 _ I1 q1) fun u s2 W'=>?_
 obtain⟨y,H2,I2,r2,q2⟩:=W'
 exact hf v u s2 x y H2 I2 r1 r2 q2
def tVar (i:Nat):TE:=fun σ H Q=>∃v,σ[i]?=some (some v)∧Q v H
def tC (v:V):TE:=fun _ H Q=>Q v H
theorem zqb {i:Nat}{x:Str}{pos:Pos}(hN:X.N[i]?=some x)(hv:Vis X.env.scope x)(hd:(x == ("__debug__" : Str))=false:=by decide)(hcd:(x == ("__classdict__" : Str))=false:=by decide):PE X (.Name x pos) (tVar i):=by
 intro ad s σ H Q I h
 obtain⟨v,e,h⟩:=h
 obtain⟨m,hn,hl⟩:=I.loc
 obtain⟨u,r,l⟩:=hl i x v hN e hv
 have ae:EP X ad σ Q u s:=⟨v,H,I,r,h⟩
 rcases l with⟨hk,hm⟩|⟨hk,c,hc,ac⟩
 ·exact wpAny_Name (wpAny_loadName_local I.ok.kind hk hn hm ae) hd
 ·rcases hk with hk|hk
  ·exact wpAny_Name (wpAny_loadName_cell I.ok.kind hk hc ac ae) hd
  ·exact wpAny_Name (wpAny_loadName_free I.ok.kind hk hc ac ae hcd) hd
def aqd {i j pos}:PE X (.Constant (.int i) j pos) (tC (.int i)):=fun _ _ _ H _ I h=>wpAny_Constant_int ⟨.int i,H,I.tok _,⟨_,rfl⟩,h⟩
def kqJ {b j pos}:PE X (.Constant (.bool b) j pos) (tC (.bl b)):=fun _ _ _ H _ I h=>Constant_bool ⟨.bl b,H,I,rfl,h⟩
def aqM {j pos}:PE X (.Constant .none j pos) (tC .non):=fun _ _ _ H _ I h=>Constant_none ⟨.non,H,I,rfl,h⟩
def aqg {x j pos}:PE X (.Constant (.str x) j pos) (tC (.str x)):=fun _ _ _ H _ I h=>Calls.Constant_str ⟨.str x,H,I.tok _,⟨_,rfl⟩,h⟩
def Gl (X:Cx)(x:Str):Prop:=X.env.kindOf x=some .globalImplicit
def eqg {E:Value->Shared->Prop}{pins:List (Addr×Obj)}{s:Shared}{σ:St}{H:Hp}{x:Str}{u:Value}{pos:Pos}{Q:Value->Shared->Prop}(I:Inv X pins σ H s)(hg:Gl X x)(hm:X.mg x=some u)(h:Q u s)
  (hd:(x == ("__debug__" : Str))=false:=by decide):wpAny (model X.prog X.w) X.A (eval (.Name x pos) X.env) Q E s:=
 Calls.Name_function_global I.ok.kind hg (Calls.loadGlobal_global (by rw[I.ok.glob];exact I.mod.glob.keeps I.bk) hm h) hd
theorem oqg {E:Value->Shared->Prop}{pins:List (Addr×Obj)}{s:Shared}{σ:St}{H:Hp}{x:Str}{u:Value}{pos:Pos}{Q:Value->Shared->Prop}(I:Inv X pins σ H s)(hg:Gl X x)(hm:X.mg x=none)(hv:bootBuiltins x=some u)(h:Q u s)
  (hn:x ≠ "__name__" := by decide) (hd:(x == ("__debug__" : Str))=false:=by decide):wpAny (model X.prog X.w) X.A (eval (.Name x pos) X.env) Q E s:=by
 obtain⟨mb,h1,h2⟩:=I.mod.blt
 exact Calls.Name_function_global I.ok.kind hg (Calls.loadGlobal_builtin (by rw[I.ok.glob];exact I.mod.glob.keeps I.bk) hm (by rw[I.ok.blt];exact h1.keeps I.bk) ((h2 x hn).trans hv) h) hd
def aqx {x:Str}{v:V}{u:Value}{pos:Pos}(hg:Gl X x)(hm:X.mg x=some u)(r:RelV v u)(hd:(x == ("__debug__" : Str))=false:=by decide):PE X (.Name x pos) (tC v):=
 fun _ _ _ H _ I h=>eqg I hg hm ⟨v,H,I,r,h⟩ hd
def iqt {x:Str}{v:V}{u:Value}{pos:Pos}(hg:Gl X x)(hm:X.mg x=none)(hv:bootBuiltins x=some u)(r:RelV v u)(hn:x ≠ "__name__" := by decide)(hd:(x == ("__debug__" : Str))=false:=by decide):PE X (.Name x pos) (tC v):=
 fun _ _ _ H _ I h=>oqg I hg hm hv ⟨v,H,I,r,h⟩ hn hd
variable {a b:Expr}{ta tb:TE}{pos:Pos}
def PC (X:Cx)(op:CmpOp)(a b:Expr)(t:TE):Prop:=
 ∀(pins:List (Addr×Obj)) (s:Shared) (σ:St) (H:Hp) (Q:VK),Inv X pins σ H s->t σ H Q ->
  wpAny (model X.prog X.w) X.A (eval a X.env) (fun v s₁=>wpAny (model X.prog X.w) X.A (eval b X.env) (fun u s₂=>wpAny (model X.prog X.w) X.A (compareOp op v u) (EP X pins σ Q) X.xe s₂) X.xe s₁) X.xe s
def tB (t:TE):TT:=fun σ H Q=>t σ H fun x H1=>∃c,x=.bl c∧Q c H1
def Aq4 {op:CmpOp}{t:TE}(h:PC X op a b t)(h1:behindInMarks op b=false:=by first|exact nobehind _ (by decide) (by decide)|rfl):PT X (.Compare a [op] [b] pos) (tB t):=by
 intro pins s σ H Q I hw
 refine wpAny_isTrue_Compare1 (thn (h pins s σ H _ I hw) fun v s1 h1=>thn h1 fun u s2 h2=>thn h2 fun c s3 W'=>?_) h1
 obtain⟨x,H1,I1,r1,q1⟩:=W'
 obtain⟨d,rfl,q⟩:=q1
 cases r1
 exact wpAny_truthy_bool ⟨H1,I1,q⟩
def bqb {e:Expr}{t:TE}(h:PE X e t)(he:∀whole,isTrue e X.env whole=(do let v <- whole;standAt e.pos;holding [v] (truthy v)):=by intro _;rfl):PT X e (tB t):=by
 intro pins s σ H Q I hw
 refine isTrue_plain (thn (h pins s σ H _ I hw) fun v s1 W'=>?_) (he _)
 obtain⟨x,H1,I1,r1,q1⟩:=W'
 obtain⟨d,rfl,q⟩:=q1
 cases r1
 exact wpAny_truthy_bool ⟨H1,I1,q⟩
variable {tA tB':TT}{rest:List Expr}
def tAnd (t u:TT):TT:=fun σ H Q=>t σ H fun c H1=>if c=true then u σ H1 Q else Q false H1
def tOr (t u:TT):TT:=fun σ H Q=>t σ H fun c H1=>if c=true then Q true H1 else u σ H1 Q
def tNot (t:TT):TT:=fun σ H Q=>t σ H fun c H1=>Q (!c) H1
theorem eqp (ha:PT X a tA):PW X (.BoolOp .And [a] pos) tA:=by
 intro wh pins s σ H Q I h
 refine isTrue_and (thn (ha pins s σ H Q I h) fun c s1 e=>?_)
 cases c with
 |true=>exact isTrue_and_nil e
 |false=>exact e
theorem iqV (ha:PT X a tA):PW X (.BoolOp .Or [a] pos) tA:=by
 intro wh pins s σ H Q I h
 refine isTrue_or (thn (ha pins s σ H Q I h) fun c s1 e=>?_)
 cases c with
 |false=>exact isTrue_or_nil e
 |true=>exact e
theorem gqu (ha:PT X a tA)(hb:PW X (.BoolOp .And (b::rest) pos) tB'):PW X (.BoolOp .And (a::b::rest) pos) (tAnd tA tB'):=by
 intro wh pins s σ H Q I h
 refine isTrue_and (thn (ha pins s σ H _ I h) fun c s1 W'=>?_)
 obtain⟨H1,I1,q1⟩:=W'
 cases c with
 |true=>exact hb wh pins s1 σ H1 Q I1 q1
 |false=>exact⟨H1,I1,q1⟩
theorem kqO (ha:PT X a tA)(hb:PW X (.BoolOp .Or (b::rest) pos) tB'):PW X (.BoolOp .Or (a::b::rest) pos) (tOr tA tB'):=by
 intro wh pins s σ H Q I h
 refine isTrue_or (thn (ha pins s σ H _ I h) fun c s1 W'=>?_)
 obtain⟨H1,I1,q1⟩:=W'
 cases c with
 |true=>exact⟨H1,I1,q1⟩
 |false=>exact hb wh pins s1 σ H1 Q I1 q1
def dqm (ha:PT X a tA):PT X (.UnaryOp .Not a pos) (tNot tA):=by
 intro pins s σ H Q I h
 exact isTrue_not (ha pins s σ H (fun c H1=>Q (!c) H1) I h)
def tAndV (ta tb:TE):TE:=fun σ H Q=>ta σ H fun x H1=>∃c,x=.bl c∧if c=true then tb σ H1 Q else Q (.bl false) H1
def tOrV (ta tb:TE):TE:=fun σ H Q=>ta σ H fun x H1=>∃c,x=.bl c∧if c=true then Q (.bl true) H1 else tb σ H1 Q
def tNotV (ta:TE):TE:=fun σ H Q=>ta σ H fun x H1=>∃c,x=.bl c∧Q (.bl (!c)) H1
def dqp {op}{t:TE}(h:PE X a t):PE X (.BoolOp op [a] pos) t:=fun pins s σ H Q I hw=>BoolOp_one (h pins s σ H Q I hw)
theorem fqu (ha:PE X a ta)(hb:PE X (.BoolOp .And (b::rest) pos) tb):PE X (.BoolOp .And (a::b::rest) pos) (tAndV ta tb):=by
 intro pins s σ H Q I h
 refine BoolOp_and (thn (ha pins s σ H _ I h) fun v s1 W'=>?_)
 obtain⟨x,H1,I1,r1,q1⟩:=W'
 obtain⟨c,rfl,q1⟩:=q1
 cases r1
 refine wpAny_truthy_bool ?_
 cases c with
 |true=>exact hb pins s1 σ H1 Q I1 q1
 |false=>exact⟨.bl false,H1,I1,rfl,q1⟩
theorem rqA (ha:PE X a ta)(hb:PE X (.BoolOp .Or (b::rest) pos) tb):PE X (.BoolOp .Or (a::b::rest) pos) (tOrV ta tb):=by
 intro pins s σ H Q I h
 refine BoolOp_or (thn (ha pins s σ H _ I h) fun v s1 W'=>?_)
 obtain⟨x,H1,I1,r1,q1⟩:=W'
 obtain⟨c,rfl,q1⟩:=q1
 cases r1
 refine wpAny_truthy_bool ?_
 cases c with
 |false=>exact hb pins s1 σ H1 Q I1 q1
 |true=>exact⟨.bl true,H1,I1,rfl,q1⟩
def rqg (ha:PE X a ta):PE X (.UnaryOp .Not a pos) (tNotV ta):=by
 intro pins s σ H Q I h
 refine UnaryOp_ (thn (ha pins s σ H _ I h) fun v s1 W'=>?_)
 obtain⟨x,H1,I1,r1,q1⟩:=W'
 obtain⟨c,rfl,q1⟩:=q1
 cases r1
 exact not_of (wpAny_truthy_bool ⟨.bl (!c),H1,I1,rfl,q1⟩)
def tIf (t:TT)(ta tb:TE):TE:=fun σ H Q=>t σ H fun c H1=>if c=true then ta σ H1 Q else tb σ H1 Q
theorem bqd {c:Expr}(hc:PT X c tA)(ha:PE X a ta)(hb:PE X b tb):PE X (.IfExp c a b pos) (tIf tA ta tb):=by
 intro pins s σ H Q I h
 refine wpAny_IfExp (thn (hc pins s σ H _ I h) fun d s1 W'=>?_)
 obtain⟨H1,I1,q1⟩:=W'
 cases d with
 |true=>exact ha pins s1 σ H1 Q I1 q1
 |false=>exact hb pins s1 σ H1 Q I1 q1
end
def SqL (K:W.Frag)(H:Hp)(a:Addr)(xs:List V):Prop:=
 Rd H a (.lst xs) ∨
  ∃(o:Obj) (its:Array Value) (n:Nat),K.lookup a=some o∧o.cls=.type "list" ∧ o.dict=none∧o.data=.seq its n∧its.size≤sizeLine∧Vals xs its.toList
def SqT (K:W.Frag)(H:Hp)(a:Addr)(xs:List V):Prop:=
 Rd H a (.tup xs) ∨
  ∃(o:Obj) (its:Array Value) (n:Nat),K.lookup a=some o∧o.cls=.type "tuple" ∧ o.data=.seq its n∧its.size≤sizeLine∧Vals xs its.toList
def absV:Value->Option V
 |.none=>some .non
 |.bool b=>some (.bl b)
 |.int i _=>some (.int i)
 |.str x _=>some (.str x)
 |.bytes b _=>some (.byt b)
 |.float b _=>some (.flt b)
 |.ref a=>some (.ref a)
 |.type n=>some (.ty n)
 |_=>none
theorem RelV.abs {x:V}{u:Value}(r:RelV x u):absV u=some x:=by
 cases x with
 |non=>cases r;rfl
 |bl _=>cases r;rfl
 |int _=>obtain⟨t,rfl⟩:=r;rfl
 |str _=>obtain⟨t,rfl⟩:=r;rfl
 |byt _=>obtain⟨t,rfl⟩:=r;rfl
 |flt _=>obtain⟨t,rfl⟩:=r;rfl
 |ref _=>cases r;rfl
 |ty _=>cases r;rfl
def RelV.inj {x y:V}{u:Value}(r:RelV x u)(q:RelV y u):x=y:=Option.some.inj (r.abs.symm.trans q.abs)
theorem Vals.inj:∀{xs ys:List V}{us:List Value},Vals xs us->Vals ys us->xs=ys
 |_,_,_,.nil,.nil=>rfl
 |_,_,_,.cons r t,.cons r' t'=>by rw[r.inj r',Vals.inj t t']
section
variable {X:Cx}{pins:List (Addr×Obj)}{σ:St}{H:Hp}{s:Shared}{a:Addr}{xs ys:List V}
def SqL.of {K:W.Frag}(h:H a=some (.lst xs)):SqL K H a xs:=.inl (.inl h)
def SqT.of {K:W.Frag}(h:H a=some (.tup xs)):SqT K H a xs:=.inl (.inl h)
def Inv.list (I:Inv X pins σ H s)(h:SqL X.K H a xs):∃its:List Value,Vals xs its∧PlainL s.heap a its.toArray∧xs.length≤sizeLine:=by
 rcases h with h|⟨o,its,n,hk,hc,hd,hs,hz,r⟩
 ·obtain⟨z,its,n,r,e⟩:=h.ok I.hok
  exact⟨its,r,⟨_,n,e,rfl,rfl,rfl⟩,z⟩
 ·refine⟨its.toList,r,⟨o,n,I.kIn a o hk,hc,hd,by simpa using hs⟩,?_⟩
  have e:=r.length
  simp only[Array.length_toList] at e
  lia
def Inv.tuple (I:Inv X pins σ H s)(h:SqT X.K H a xs):∃its:List Value,Vals xs its∧IsTup s.heap a its.toArray∧xs.length≤sizeLine:=by
 rcases h with h|⟨o,its,n,hk,hc,hs,hz,r⟩
 ·obtain⟨z,its,r,p⟩:=h.ok I.hok
  exact⟨its,r,p,z⟩
 ·refine⟨its.toList,r,⟨o,I.kIn a o hk,hc,n,by simpa using hs⟩,?_⟩
  have e:=r.length
  simp only[Array.length_toList] at e
  lia
def Inv.list_inj (I:Inv X pins σ H s)(h:SqL X.K H a xs)(h':SqL X.K H a ys):xs=ys:=by
 obtain⟨its,r,⟨o,n,e,_,_,d⟩,_⟩:=I.list h
 obtain⟨its',r',⟨o',n',e',_,_,d'⟩,_⟩:=I.list h'
 rw[e] at e';cases e'
 rw[d] at d'
 injection d' with d1 _
 have:its=its':=by simpa using congrArg Array.toList d1
 subst this
 exact r.inj r'
def Inv.tuple_inj (I:Inv X pins σ H s)(h:SqT X.K H a xs)(h':SqT X.K H a ys):xs=ys:=by
 obtain⟨its,r,⟨o,e,_,n,d⟩,_⟩:=I.tuple h
 obtain⟨its',r',⟨o',e',_,n',d'⟩,_⟩:=I.tuple h'
 rw[e] at e';cases e'
 rw[d] at d'
 injection d' with d1 _
 have:its=its':=by simpa using congrArg Array.toList d1
 subst this
 exact r.inj r'
end
abbrev Cx.wish (X:Cx)(E:Value->Shared->Prop):Cx:={ X with xe:=E}
abbrev Cx.nox (X:Cx):Cx:=X.wish fun _ _=>False
def Cx.Ok.wish {X:Cx}(ok:X.Ok)(E:Value->Shared->Prop):(X.wish E).Ok:=
 ⟨ok.mod,ok.kind,ok.glob,ok.blt,ok.above,ok.inj,ok.has,ok.cab,ok.hd,ok.frames,ok.stk,ok.exf,ok.bs,ok.bsz,ok.noex,ok.exfs,ok.funs,ok.frf⟩
def Cx.Ok.unwish {X:Cx}{E:Value->Shared->Prop}(ok:(X.wish E).Ok):X.Ok:=
 ⟨ok.mod,ok.kind,ok.glob,ok.blt,ok.above,ok.inj,ok.has,ok.cab,ok.hd,ok.frames,ok.stk,ok.exf,ok.bs,ok.bsz,ok.noex,ok.exfs,ok.funs,ok.frf⟩
section
variable {X:Cx}{pins:List (Addr×Obj)}{σ:St}{H:Hp}{s:Shared}{E:Value->Shared->Prop}
def Inv.wish (I:Inv X pins σ H s)(E:Value->Shared->Prop):Inv (X.wish E) pins σ H s:=⟨I.ok.wish E,I.os,I.bare,I.base,I.loc,I.cell,I.free,I.freeC,I.pin,I.hok,I.len⟩
def Inv.unwish (I:Inv (X.wish E) pins σ H s):Inv X pins σ H s:=⟨I.ok.unwish,I.os,I.bare,I.base,I.loc,I.cell,I.free,I.freeC,I.pin,I.hok,I.len⟩
theorem SP.unwish {D:Ends}{f:Flow}{s':Shared}(h:SP (X.wish E) pins D f s'):SP X pins D f s':=by
 cases f with
 |next=>obtain⟨σ',H',I,q⟩:=h;exact⟨σ',H',I.unwish,q⟩
 |brk=>obtain⟨σ',H',I,q⟩:=h;exact⟨σ',H',I.unwish,q⟩
 |cont=>obtain⟨σ',H',I,q⟩:=h;exact⟨σ',H',I.unwish,q⟩
 |ret u=>obtain⟨v,σ',H',I,r,q⟩:=h;exact⟨v,σ',H',I.unwish,r,q⟩
def PSs.nox {st:List Stmt}{t:TS}(h:PSs X.nox st t):PSs X st t:=fun pins s σ H D I hw=>
 wpAny_mono (h pins s σ H D (I.wish _) hw) (fun _ _ q=>q.unwish) fun _ _ z=>False.elim z
end
section
variable {X:Cx}{st:Stmt}{rest:List Stmt}{t u:TS}{e:Expr}{te:TE}{pos:Pos}
def tNext:TS:=fun D σ H=>D.nx σ H
def tSeq (t u:TS):TS:=fun D σ H=>t {D with nx:=u D} σ H
def aqr:PSs X [] tNext:=fun _ _ σ H _ I h=>wpAny_execs_nil ⟨σ,H,I,h⟩
theorem aqc (h1:PS X st t)(h2:PSs X rest u):PSs X (st::rest) (tSeq t u):=by
 intro pins s σ H D I h
 refine wpAny_execs_cons (thn (h1 pins s σ H {D with nx:=u D} I h) fun f s1 q=>?_)
 cases f with
 |next=>
  obtain⟨σ',H',I',q⟩:=q
  exact h2 pins s1 σ' H' D I' q
 |ret v=>exact q
 |brk=>exact q
 |cont=>exact q
theorem aqe (h1:PS X st t):PSs X [st] t:=by
 intro pins s σ H D I h
 refine wpAny_execs_cons (thn (h1 pins s σ H D I h) fun f s1 q=>?_)
 cases f with
 |next=>exact wpAny_execs_nil q
 |ret v=>exact q
 |brk=>exact q
 |cont=>exact q
def tBreak:TS:=fun D σ H=>D.bk σ H
def Inv.quiet {pins:List (Addr×Obj)}{σ:St}{H:Hp}{s:Shared}(I:Inv X pins σ H s):interactive X.env=false:=by simp[interactive,I.ok.kind]
def tDrop (te:TE):TS:=fun D σ H=>te σ H fun _ H1=>D.nx σ H1
def cqo (he:PE X e te)(hs:swapsWith e none pos.line X.env=pure false:=by rfl):PS X (.Expr e pos) (tDrop te):=by
 intro pins s σ H D I h
 exact wpAny_Expr_any (thn (he pins s σ H _ I h) fun v s1 ⟨x,H1,I1,r1,q1⟩=>⟨σ,H1,I1,q1⟩) I.quiet hs
def tRet (te:TE):TS:=fun D σ H=>te σ H D.rt
def aql (he:PE X e te):PS X (.Return (some e) pos) (tRet te):=by
 intro pins s σ H D I h
 exact wpAny_Return_some (thn (he pins s σ H _ I h) fun v s1 ⟨x,H1,I1,r1,q1⟩=>⟨x,σ,H1,I1,r1,q1⟩)
def tIfS (c:TT)(t u:TS):TS:=fun D σ H=>c σ H fun b H1=>if b=true then t D σ H1 else u D σ H1
theorem aqN {c:Expr}{a b:List Stmt}{tc:TT}(hc:PT X c tc)(ha:PSs X a t)(hb:PSs X b u):PS X (.If c a b pos) (tIfS tc t u):=by
 intro pins s σ H D I h
 refine wpAny_If (thn (hc pins s σ H _ I h) fun d s1 W'=>?_)
 obtain⟨H1,I1,q1⟩:=W'
 cases d with
 |true=>exact ha pins s1 σ H1 D I1 q1
 |false=>exact hb pins s1 σ H1 D I1 q1
def tNever:TS:=fun _ _ _=>False
def hqv:PS X st tNever:=fun _ _ _ _ _ _ h=>h.elim
end
abbrev TG:=V->St->Hp->(St->Hp->Prop)->Prop
abbrev TGs:=List V->St->Hp->(St->Hp->Prop)->Prop
def PG (X:Cx)(target:Expr)(t:TG):Prop:=
 ∀(pins:List (Addr×Obj)) (s:Shared) (σ:St) (H:Hp) (v:V) (u:Value) (Q:St->Hp->Prop),Inv X pins σ H s->RelV v u->t v σ H Q ->
  wpAny (model X.prog X.w) X.A (assign target X.env u) (fun _ s'=>∃σ' H',Inv X pins σ' H' s'∧Q σ' H') X.xe s
def PGs (X:Cx)(ts:List Expr)(t:TGs):Prop:=
 ∀(pins:List (Addr×Obj)) (s:Shared) (σ:St) (H:Hp) (vs:List V) (us:List Value) (Q:St->Hp->Prop),Inv X pins σ H s->Vals vs us->t vs σ H Q ->
  wpAny (model X.prog X.w) X.A (assignInOrder ((assignEach ts X.env).map (·.2)) us) (fun _ s'=>∃σ' H',Inv X pins σ' H' s'∧Q σ' H') X.xe s
abbrev TSet:=V->V->V->Hp->(Hp->Prop)->Prop
def PSet (X:Cx)(t:TSet):Prop:=
 ∀(pins:List (Addr×Obj)) (s:Shared) (σ:St) (H:Hp) (o i v:V) (ov iv u:Value) (Q:Hp->Prop),Inv X pins σ H s->RelV o ov->RelV i iv->RelV v u->t o i v H Q ->
  wpAny (model X.prog X.w) X.A (setItem ov iv u) (fun _ s'=>∃H',Inv X pins σ H' s'∧Q H') X.xe s
section
variable {X:Cx}{pos:Pos}
def gName (i:Nat):TG:=fun v σ H Q=>Q (σ.set i (some v)) H
def aqX {i:Nat}{x:Str}(hN:X.N.Nodup)(hi:X.N[i]?=some x)(hx:Loc X.env.scope x)(hf:X.fn x=true∨X.env.scope.names.lookup x=some .local:=by first|exact .inl rfl|exact .inr rfl|assumption):PG X (.Name x pos) (gName i):=by
 intro pins s σ H v u Q I r h
 exact wpAny_assign_Name (kqX I hN hi hx r (fun s' I'=>⟨_,H,I',h⟩) hf)
def gNil:TGs:=fun vs σ H Q=>vs=[]∧Q σ H
def gCons (t:TG)(u:TGs):TGs:=fun vs σ H Q=>∃v r,vs=v::r∧t v σ H fun σ' H'=>u r σ' H' Q
def gqU:PGs X [] gNil:=by
 intro pins s σ H vs us Q I r h
 obtain⟨e,h⟩:=h
 subst e
 cases r
 exact assignInOrder_nil ⟨σ,H,I,h⟩
theorem bqe {e:Expr}{es:List Expr}{t:TG}{u:TGs}(h1:PG X e t)(h2:PGs X es u)
  (hs:(assignEach (e::es) X.env).map (·.2)=assign e X.env::(assignEach es X.env).map (·.2):=by rfl):PGs X (e::es) (gCons t u):=by
 intro pins s σ H vs us Q I r h
 obtain⟨v,vr,e1,h⟩:=h
 subst e1
 cases r with
 |cons r rr=>
  rw[hs]
  refine assignInOrder_cons (thn (h1 pins s σ H _ _ _ I r h) fun _ s1 W'=>?_)
  obtain⟨σ1,H1,I1,q1⟩:=W'
  exact h2 pins s1 σ1 H1 _ _ Q I1 rr q1
def gTup (K:W.Frag)(n:Nat)(t:TGs):TG:=fun v σ H Q=>∃a xs,v=.ref a∧SqT K H a xs∧xs.length=n∧t xs σ H Q
theorem wqH {es:List Expr}{k:Nat}{t:TGs}{n:Nat}(hc:X.calm=true)(h:PGs X es t)
  (hn:(assignEach es X.env).length=n:=by rfl) (hst:(assignEach es X.env).findIdx? (·.1)=none:=by rfl):PG X (.Tuple es k pos) (gTup X.K n t):=by
 intro ac s σ H v u Q I r hw
 obtain⟨a,xs,e1,hq,hl,hw⟩:=hw
 subst e1
 cases r
 obtain⟨ad,rv,ht,hz⟩:=I.tuple hq
 refine assign_Tuple_tuple (I.ok.hd hc) ht (by simp[hn,<- hl,rv.length]) hst fun h' hx=>?_
 have I1:Inv X ac σ H {s with heap:=h' }:=I.kept (t':=s.toks) fun b o e=>hx b o (Nat.ne_of_lt (Heap.lt_size e)) e
 exact h ac _ σ H xs _ Q I1 (by simpa using rv) hw
def gSub (to ti:TE)(t:TSet):TG:=fun v σ H Q=>to σ H fun o H1=>ti σ H1 fun i H2=>t o i v H2 fun H3=>Q σ H3
theorem Aqr {o i:Expr}{to ti:TE}{t:TSet}(ho:PE X o to)(hi:PE X i ti)(hs:PSet X t)
  (ha:∀v,assign (.Subscript o i pos) X.env v=(do
   let ov <- holding [v] (eval o X.env)
   let iv <- holding [v,ov] (eval i X.env)
   standAt pos
   holding [v,ov,iv] (setItem ov iv v)
   release [v,ov,iv] []):=by intro _;rfl):PG X (.Subscript o i pos) (gSub to ti t):=by
 intro ac s σ H v u Q I r h
 rw[ha]
 refine wpAny_bind (wpAny_holding (thn (ho ac s σ H _ I h) fun ov s1 W'=>?_))
 obtain⟨x,H1,I1,r1,q1⟩:=W'
 refine wpAny_bind (wpAny_holding (thn (hi ac s1 σ H1 _ I1 q1) fun iv s2 W'=>?_))
 obtain⟨y,H2,I2,r2,q2⟩:=W'
 refine wpAny_bind (wpAny_standAt (wpAny_bind (wpAny_holding (thn (hs ac s2 σ H2 x y v ov iv u _ I2 r1 r2 r q2) fun _ s3 W'=>?_))))
 obtain⟨H3,I3,q3⟩:=W'
 exact wpAny_release ⟨σ,H3,I3,q3⟩
def tAsg (te:TE)(g:TG):TS:=fun D σ H=>te σ H fun x H1=>g x σ H1 D.nx
def qqX {tg e:Expr}{te:TE}{g:TG}(he:PE X e te)(hg:PG X tg g)(hs:swapsWithSole [tg] e pos.line X.env=pure false:=by rfl)(hw:swappedStores [tg] e X.env=pure none:=by rfl)
  (h1:(assignEach [tg] X.env).map (·.2)=[assign tg X.env]:=by rfl):PS X (.Assign [tg] e pos) (tAsg te g):=by
 intro pins s σ H D I h
 refine wpAny_Assign_stores (thn (he pins s σ H _ I h) fun v s1 W'=>?_) hs hw
 obtain⟨x,H1,I1,r1,q1⟩:=W'
 rw[h1]
 exact thn (hg pins s1 σ H1 x v _ I1 r1 q1) fun _ s2 q=>q
theorem aqk {i:Nat}{x:Str}{e:Expr}{te:TE}{pos':Pos}(hN:X.N.Nodup)(hi:X.N[i]?=some x)(hx:Loc X.env.scope x)(he:PE X e te)(hs:swapsWith e (some (.Name x pos')) pos.line X.env=pure false:=by rfl)(hf:X.fn x=true∨X.env.scope.names.lookup x=some .local:=by first|exact .inl rfl|exact .inr rfl|assumption) :
  PS X (.Assign [.Name x pos'] e pos) (tAsg te (gName i)):=by
 intro pins s σ H D I h
 refine wpAny_Assign_Name (thn (he pins s σ H _ I h) fun v s1 W'=>?_) hs
 obtain⟨y,H1,I1,r1,q1⟩:=W'
 exact kqX I1 hN hi hx r1 (fun s2 I2=>⟨_,H1,I2,q1⟩) hf
def tPar (i j:Nat)(ta:TA):TS:=fun D σ H=>ta σ H fun vs H1=>∃v w,vs=[v,w]∧D.nx ((σ.set i (some v)).set j (some w)) H1
end
section
variable {X:Cx}{pos:Pos}
def tWhile (c:TT)(tb:TS):TS:=fun D σ H=>∃W:Nat->St->Hp->Prop,(∃m,W m σ H)∧∀m σ H,W m σ H ->
 c σ H fun b H1=>if b=true then ∃N:St->Hp->Prop,(∀σ' H',N σ' H'->∃m',m' < m∧W m' σ' H')∧tb {D with nx:=N,ct:=N,bk:=D.nx} σ H1 else D.nx σ H1
theorem kqV {c:Expr}{body:List Stmt}{tc:TT}{tb:TS}(hp:PassesOwn (model X.prog X.w) X.A X.env X.xe)(hc:PT X c tc)(hb:PSs X body tb):PS X (.While c body [] pos) (tWhile tc tb):=by
 intro ac s σ H D I h
 obtain⟨W,⟨m0,w0⟩,ad⟩:=h
 refine wpAny_While (codeAny_whileLoop (fun n s'=>∃σ' H',Inv X ac σ' H' s'∧W n σ' H') ?_ m0 ⟨σ,H,I,w0⟩)
 rintro n s1 ⟨σ1,H1,I1,w1⟩
 refine wpAny_passesOwn hp (thn (hc ac s1 σ1 H1 _ I1 (ad n σ1 H1 w1)) fun b s2 W'=>?_)
 obtain⟨H2,I2,q2⟩:=W'
 cases b with
 |true=>
  obtain⟨N,hN,q2⟩:=q2
  rw[if_pos rfl]
  refine wpAny_passesOwn hp (thn (hb ac s2 σ1 H2 _ I2 q2) fun f s3 q3=>?_)
  cases f with
  |next=>
   obtain⟨σ3,H3,I3,n3⟩:=q3
   obtain⟨m',hm,w3⟩:=hN σ3 H3 n3
   exact⟨m',hm,σ3,H3,I3,w3⟩
  |cont=>
   obtain⟨σ3,H3,I3,n3⟩:=q3
   obtain⟨m',hm,w3⟩:=hN σ3 H3 n3
   exact⟨m',hm,σ3,H3,I3,w3⟩
  |brk=>exact q3
  |ret v=>exact q3
 |false=>
  rw[if_neg Bool.false_ne_true]
  exact wpAny_execs_nil ⟨σ1,H2,I2,q2⟩
end
structure It where
 go:Nat->Hp->Prop
 yld:Nat->Hp->V->Hp->Prop
 stop:Nat->Hp->Prop
def FpOk (X:Cx)(pins:List (Addr×Obj))(H:Hp)(b:Addr):Prop:=
 H b=none∧b≠X.env.locals∧b∉X.fs∧(b∈X.ex∨X.s₀.heap.objs.size≤b)∧(∀x c,X.env.cells.lookup x=some c->c≠b)∧∀p∈X.pn++pins,p.1≠b
def Inv.fpOk {X:Cx}{pins:List (Addr×Obj)}{σ:St}{H H':Hp}{s:Shared}{b:Addr}(I:Inv X pins σ H s)(hb:s.heap.objs.size≤b)(hn:H' b=none):FpOk X pins H' b:=by
 refine⟨hn,Nat.ne_of_gt (Nat.lt_of_lt_of_le I.lt hb),I.nofs hb,.inr (Nat.le_trans I.sz hb),fun x c e z=>?_,fun p hp z=>?_⟩
 ·obtain⟨v,q⟩:=I.cell x c e
  exact absurd (Nat.lt_of_lt_of_le q.lt (by rw[z];exact hb)) (Nat.lt_irrefl _)
 ·exact absurd (Nat.lt_of_lt_of_le (Heap.lt_size (I.pin p hp).1) (by rw[z];exact hb)) (Nat.lt_irrefl _)
structure Turn (P:Program)(w:World)(K:W.Frag)(tg:Expr)(J:It)(fp:List Addr)(it:Addr)(tn:Nat->Heap->Prop):Prop where
 mem:it∈fp
 obj:∀i h,tn i h->∀b∈fp,∃o,h.get? b=some o∧∀v,o.data≠.cell v
 keep:∀i h h',tn i h->(∀b∈fp,∀o,h.get? b=some o->h'.get? b=some o)->tn i h'
 item:∀(X:Cx),X.prog=P->X.w=w->X.K=K->X.calm=true->∀(i:Nat) (pins:List (Addr×Obj)) (s:Shared) (σ:St) (H:Hp) (E:Value->Shared->Prop),Inv X pins σ H s->(∀b∈fp,FpOk X pins H b)->tn i s.heap->J.go i H ->
  wpAny (model P w) X.A (pyNext (.ref it)) (fun r s1=>∃u,r=some u ∧
   wpAny (model P w) X.A (letOwnedTupleGo tg (.ref it) u) (fun _ s2=>∃x H',Inv X pins σ H' s2∧RelV x u∧J.yld i H x H'∧tn (i+1) s2.heap∧∀b∈fp,H' b=none) E s1) E s
 done:∀(X:Cx),X.prog=P->X.w=w->X.K=K->X.calm=true->∀(i:Nat) (pins:List (Addr×Obj)) (s:Shared) (σ:St) (H:Hp) (E:Value->Shared->Prop),Inv X pins σ H s->(∀b∈fp,FpOk X pins H b)->tn i s.heap->J.stop i H ->
  wpAny (model P w) X.A (pyNext (.ref it)) (fun r s1=>r=none∧Inv X pins σ H s1) E s
 self:∀(A:Around) (i:Nat) (s:Shared) (Q:Value->Shared->Prop) (E:Value->Shared->Prop),tn i s.heap->Q (.ref it) s->wpAny (model P w) A (pyIter (.ref it)) Q E s
abbrev TI:=St->Hp->(It->Hp->Prop)->Prop
def PIE (X:Cx)(pins:List (Addr×Obj))(σ:St)(tg:Expr)(R:It->Hp->Prop)(itv:Value)(s2:Shared):Prop:=
 ∃(it:Addr) (fp:List Addr) (tn:Nat->Heap->Prop) (J:It) (H':Hp),itv=.ref it∧Inv X pins σ H' s2∧Turn X.prog X.w X.K tg J fp it tn∧tn 0 s2.heap∧(∀b∈fp,FpOk X pins H' b)∧R J H'
def PI (X:Cx)(tg iter:Expr)(wi:TI):Prop:=
 ∀(pins:List (Addr×Obj)) (s:Shared) (σ:St) (H:Hp) (R:It->Hp->Prop),Inv X pins σ H s->wi σ H R ->
  wpAny (model X.prog X.w) X.A (eval iter X.env) (fun v s1=>wpAny (model X.prog X.w) X.A (pyIter v) (PIE X pins σ tg R) X.xe s1) X.xe s
theorem uqq {M:Model}{A:Around}{E:Value->Shared->Prop}{s:Shared}{tg:Expr}{it:Addr}{u:Value}{o:Obj}{n:String}{vs:Array Value}{Q:Unit->Shared->Prop}(ho:s.heap.get? it=some o)(hc:o.cls=.type n)(hd:o.data=.fields vs)
  (hn:["enumerate","zip","dict_itemiterator","dict_reverseitemiterator","odict_iterator","itertools.zip_longest","itertools.pairwise"].contains n=false) (hQ:Q () s):wpAny M A (letOwnedTupleGo tg (.ref it) u) Q E s:=by
 unfold letOwnedTupleGo
 cases tg <;> first
  |exact wpAny_pure hQ
  | (cases u <;> first
    |exact wpAny_pure hQ
    | (refine wpAny_bind (wpAny_load ho ?_)
       rw[hc,hd]
       show wpAny M A (if (["enumerate","zip","dict_itemiterator","dict_reverseitemiterator","odict_iterator","itertools.zip_longest","itertools.pairwise"].contains n && vs[0]? == some (rawInt _))=true then _ else _) Q E s
       rw[if_neg (by intro h;rw[hn,Bool.false_and] at h;cases h)]
       exact wpAny_pure hQ))
def Itl (K:W.Frag)(a:Addr):It:=
 ⟨fun i H=>∃xs x,SqL K H a xs∧xs[i]?=some x,fun i H x H'=>H'=H∧∀xs,SqL K H a xs->xs[i]?=some x,fun i H=>∃xs,SqL K H a xs∧xs.length≤i⟩
def Itt (K:W.Frag)(a:Addr):It:=
 ⟨fun i H=>∃xs x,SqT K H a xs∧xs[i]?=some x,fun i H x H'=>H'=H∧∀xs,SqT K H a xs->xs[i]?=some x,fun i H=>∃xs,SqT K H a xs∧xs.length≤i⟩
def Itr (lo:Int)(n:Nat):It:=⟨fun i _=>i < n,fun i H x H'=>H'=H∧x=.int (lo+i),fun i _=>n≤i⟩
theorem sqy {P:Program}{w:World}{K:W.Frag}{tg:Expr}(a it:Addr):Turn P w K tg (Itl K a) [it] it (fun i h=>h.IsListIter it a i) where
 mem:=by simp
 obj:=fun i h st b hb=>by
  have e:b=it:=by simpa using hb
  subst e
  obtain⟨o,e,c,d⟩:=st
  exact⟨o,e,fun v z=>by rw[d] at z;cases z⟩
 keep:=fun i h h' st k=>st.at fun o e=>k it (by simp) o e
 item:=by
  intro X hP hw hK hc i ac s σ H E I hf st hg
  subst hP hw hK
  obtain⟨xs,x,hq,hx⟩:=hg
  obtain⟨ae,rv,p,hz⟩:=I.list hq
  obtain⟨u,hu,ru⟩:=rv.get hx
  obtain⟨f0,f1,f2,f3,f4,f5⟩:=hf it (by simp)
  refine wpAny_pyNext_list_item st p.isList (x:=u) (by simpa using hu) fun h' ad sb=>?_
  have I1:Inv X ac σ H {s with heap:=h' }:=I.turned (t':=s.toks) (fun b o hb e=>(sb.2 b hb).trans e) f0 f1 f3 f4 f5
  obtain⟨o,e,c,d⟩:=id ad
  exact⟨u,rfl,uqq (s:={ s with heap:=h' }) e c d (by decide) ⟨x,H,I1,ru,⟨rfl,fun ys hy=>by rw[I.list_inj hy hq];exact hx⟩,ad,fun b hb=>(hf b hb).1⟩⟩
 done:=by
  intro X hP hw hK hc i ac s σ H E I hf st hg
  subst hP hw hK
  obtain⟨xs,hq,hx⟩:=hg
  obtain⟨ae,rv,p,hz⟩:=I.list hq
  obtain⟨f0,f1,f2,f3,f4,f5⟩:=hf it (by simp)
  have hl:=rv.length
  exact wpAny_pyNext_list_end (I.ok.hd hc) st p.isList (by simp;lia) fun h' eb=>⟨rfl,I.turned (t':=s.toks) (fun b o hb e=>eb b o hb e) f0 f1 f3 f4 f5⟩
 self:=fun _ _ _ _ _ st h=>wpAny_pyIter_listiter st h
theorem rqV {P:Program}{w:World}{K:W.Frag}{tg:Expr}(a it:Addr):Turn P w K tg (Itt K a) [it] it (fun i h=>h.IsTupleIter it a i) where
 mem:=by simp
 obj:=fun i h st b hb=>by
  have e:b=it:=by simpa using hb
  subst e
  obtain⟨o,e,c,d⟩:=st
  exact⟨o,e,fun v z=>by rw[d] at z;cases z⟩
 keep:=fun i h h' st k=>st.at fun o e=>k it (by simp) o e
 item:=by
  intro X hP hw hK hc i ac s σ H E I hf st hg
  subst hP hw hK
  obtain⟨xs,x,hq,hx⟩:=hg
  obtain⟨ad,rv,p,hz⟩:=I.tuple hq
  obtain⟨u,hu,ru⟩:=rv.get hx
  obtain⟨f0,f1,f2,f3,f4,f5⟩:=hf it (by simp)
  refine wpAny_pyNext_tuple_item st (show s.heap.IsTuple a ad.toArray from p) (x:=u) (by simpa using hu) fun h' ae sb=>?_
  have I1:Inv X ac σ H {s with heap:=h' }:=I.turned (t':=s.toks) (fun b o hb e=>(sb.2 b hb).trans e) f0 f1 f3 f4 f5
  obtain⟨o,e,c,d⟩:=id ae
  exact⟨u,rfl,uqq (s:={ s with heap:=h' }) e c d (by decide) ⟨x,H,I1,ru,⟨rfl,fun ys hy=>by rw[I.tuple_inj hy hq];exact hx⟩,ae,fun b hb=>(hf b hb).1⟩⟩
 done:=by
  intro X hP hw hK hc i ac s σ H E I hf st hg
  subst hP hw hK
  obtain⟨xs,hq,hx⟩:=hg
  obtain⟨ad,rv,p,hz⟩:=I.tuple hq
  obtain⟨f0,f1,f2,f3,f4,f5⟩:=hf it (by simp)
  have hl:=rv.length
  exact wpAny_pyNext_tuple_end (I.ok.hd hc) st (show s.heap.IsTuple a ad.toArray from p) (by simp;lia) fun h' eb=>⟨rfl,I.turned (t':=s.toks) (fun b o hb e=>eb b o hb e) f0 f1 f3 f4 f5⟩
 self:=fun _ _ _ _ _ st h=>wpAny_pyIter_tupleiter st h
theorem rqJ {P:Program}{w:World}{K:W.Frag}{tg:Expr}(it:Addr)(lo:Int)(n:Nat):Turn P w K tg (Itr lo n) [it] it (fun i h=>IsRangeIter h it (lo+(i:Nat) * 1) ((n:Int) - (i:Nat)) 1) where
 mem:=by simp
 obj:=fun i h st b hb=>by
  have e:b=it:=by simpa using hb
  subst e
  exact⟨_,st,fun v z=>by
   have z':Data.fields _=Data.cell v:=z
   cases z'⟩
 keep:=fun i h h' st k=>k it (by simp) _ st
 item:=by
  intro X hP hw hK hc i ac s σ H E I hf st hg
  subst hP hw hK
  obtain⟨f0,f1,f2,f3,f4,f5⟩:=hf it (by simp)
  have W:=Walks.range (prog:=X.prog) (w:=X.w) (I.ok.hd hc) it lo 1 n
  refine W.item i s _ _ hg st fun v h' tk hv ad kk=>?_
  obtain⟨t,rfl⟩:=hv
  have I1:Inv X ac σ H {s with heap:=h',toks:=tk}:=I.turned (fun b o hb e=>kk b o (by simpa using hb) e) f0 f1 f3 f4 f5
  refine⟨_,rfl,uqq (s:={ s with heap:=h',toks:=tk}) (n := "range_iterator") ad rfl rfl (by decide) ⟨.int (lo+i),H,I1,⟨t,?_⟩,⟨rfl,rfl⟩,ad,fun b hb=>(hf b hb).1⟩⟩
  rw[Int.mul_one]
 done:=by
  intro X hP hw hK hc i ac s σ H E I hf st hg
  subst hP hw hK
  obtain⟨f0,f1,f2,f3,f4,f5⟩:=hf it (by simp)
  exact wpAny_pyNext_range_end (I.ok.hd hc) st (by have:n≤i:=hg;lia) fun h' eb=>⟨rfl,I.turned (t':=s.toks) (fun b o hb e=>eb b o hb e) f0 f1 f3 f4 f5⟩
 self:=fun _ _ _ _ _ st h=>wpAny_pyIter_rangeiter st h
section
variable {X:Cx}{tg:Expr}
def iList (K:W.Frag)(tl:TE):TI:=fun σ H R=>tl σ H fun x H1=>∃a,x=.ref a∧(∃xs,SqL K H1 a xs)∧R (Itl K a) H1
def iTup (K:W.Frag)(tl:TE):TI:=fun σ H R=>tl σ H fun x H1=>∃a,x=.ref a∧(∃xs,SqT K H1 a xs)∧R (Itt K a) H1
theorem xq0 {l:Expr}{tl:TE}(hl:PE X l tl):PI X tg l (iList X.K tl):=by
 intro ac s σ H R I h
 refine thn (hl ac s σ H _ I h) fun v s1 W'=>?_
 obtain⟨x,H1,I1,r1,q1⟩:=W'
 obtain⟨a,e,⟨xs,hq⟩,q⟩:=q1
 subst e
 cases r1
 obtain⟨ad,rv,p,hz⟩:=I1.list hq
 refine wpAny_pyIter_list p.isList ?_
 refine⟨s1.heap.objs.size,[s1.heap.objs.size],_,_,H1,rfl,I1.kept (t':=s1.toks) fun b o e=>Heap.get?_push_of_some _ e,sqy a _,⟨_,Heap.get?_push_size _ rfl,rfl,rfl⟩,fun b hb=>?_,q⟩
 have e:b=s1.heap.objs.size:=by simpa using hb
 subst e
 exact I1.fpOk (Nat.le_refl _) (I1.hok.fresh (Nat.le_refl _))
theorem zqy {l:Expr}{tl:TE}(hl:PE X l tl):PI X tg l (iTup X.K tl):=by
 intro ac s σ H R I h
 refine thn (hl ac s σ H _ I h) fun v s1 W'=>?_
 obtain⟨x,H1,I1,r1,q1⟩:=W'
 obtain⟨a,e,⟨xs,hq⟩,q⟩:=q1
 subst e
 cases r1
 obtain⟨ad,rv,p,hz⟩:=I1.tuple hq
 refine wpAny_pyIter_tuple (show s1.heap.IsTuple a ad.toArray from p) ?_
 refine⟨s1.heap.objs.size,[s1.heap.objs.size],_,_,H1,rfl,I1.kept (t':=s1.toks) fun b o e=>Heap.get?_push_of_some _ e,rqV a _,⟨_,Heap.get?_push_size _ rfl,rfl,rfl⟩,fun b hb=>?_,q⟩
 have e:b=s1.heap.objs.size:=by simpa using hb
 subst e
 exact I1.fpOk (Nat.le_refl _) (I1.hok.fresh (Nat.le_refl _))
theorem uq4 {pins:List (Addr×Obj)}{σ:St}{H:Hp}{s:Shared}{R:It->Hp->Prop}{E:Value->Shared->Prop}{lo hi:Int}{t u v:Tok}{tk:Nat}(I:Inv X pins σ H s)(h1:-(2 ^ 62)≤lo)(h2:lo < 2 ^ 62)(h3:-(2 ^ 62)≤hi)(h4:hi < 2 ^ 62)
  (q:R (Itr lo (hi - lo).toNat) H):wpAny (model X.prog X.w) X.A (pyIter (.ref s.heap.objs.size)) (PIE X pins σ tg R) E {s with heap:=s.heap.push {cls:=.type "range",data:=.fields #[.int lo t,.int hi u,.int 1 v]},toks:=tk}:=by
 refine wpAny_pyIter_range (IsRange.new ..) (small_one h1 h2 h3 h4) ?_
 have I1:Inv X pins σ H {s with heap:=s.heap.push {cls:=.type "range",data:=.fields #[.int lo t,.int hi u,.int 1 v]},toks:=tk}:=I.kept fun b o e=>Heap.get?_push_of_some _ e
 refine⟨(s.heap.push {cls:=.type "range",data:=.fields #[.int lo t,.int hi u,.int 1 v]}).objs.size,[(s.heap.push {cls:=.type "range",data:=.fields #[.int lo t,.int hi u,.int 1 v]}).objs.size],_,_,H,rfl,
  I1.kept (t':=tk) fun b o e=>Heap.get?_push_of_some _ e,rqJ _ lo (hi - lo).toNat,?_,fun b hb=>?_,q⟩
 ·have e1:lo+((0:Nat):Int) * 1=lo:=by simp
  have e2:(((hi - lo).toNat:Nat):Int) - ((0:Nat):Int)=Builtin.Range.rangeSize lo hi 1:=by rw[rangeSize_one];split <;> lia
  show IsRangeIter _ _ (lo+((0:Nat):Int) * 1) ((((hi - lo).toNat:Nat):Int) - ((0:Nat):Int)) 1
  rw[e1,e2]
  exact Heap.get?_push_size _ rfl
 ·have e:b=(s.heap.push {cls:=.type "range",data:=.fields #[.int lo t,.int hi u,.int 1 v]}).objs.size:=by simpa using hb
  subst e
  exact I1.fpOk (Nat.le_refl _) (I1.hok.fresh (Nat.le_refl _))
def iRng1 (ta:TA):TI:=fun σ H R=>ta σ H fun vs H1=>∃j:Int,vs=[.int j]∧-(2 ^ 62)≤j∧j < 2 ^ 62∧R (Itr 0 j.toNat) H1
theorem fqk {a:Expr}{ta:TA}{p pos:Pos}(hg:Gl X "range")(hm:X.mg "range"=none)(ha:PA X [a] ta)(hs:starEach [a] X.env=[(false,eval a X.env)]:=by rfl):PI X tg (.Call (.Name "range" p) [a] [] pos) (iRng1 ta):=by
 intro ac s σ H R I h
 refine Call_ (oqg I hg hm boot_range (PyProof.Rows.callWith_type1 (thn (ha pos ac s σ H _ I h) fun us s1 W'=>?_) hs rfl))
 obtain⟨vs,H1,I1,r1,q1⟩:=W'
 obtain⟨j,e,q1,q2,q⟩:=q1
 subst e
 cases r1 with
 |cons r rr=>
  cases rr
  obtain⟨t,rfl⟩:=r
  exact call_range_1 (uq4 I1 (by lia) (by lia) q1 q2 (by simpa using q))
def tFor (wi:TI)(g:TG)(tb:TS):TS:=fun D σ H=>wi σ H fun J H1=>∃W:Nat->Nat->St->Hp->Prop,(∃m,W 0 m σ H1)∧∀i m σ H,W i m σ H ->
 (J.stop i H∧D.nx σ H)∨(J.go i H∧∃N:St->Hp->Prop,(∀σ' H',N σ' H'->∃m',m' < m∧W (i+1) m' σ' H')∧∀x H',J.yld i H x H'->g x σ H' fun σ2 H2=>tb {D with nx:=N,ct:=N,bk:=D.nx} σ2 H2)
def pinsAt (fp:List Addr)(h:Heap):List (Addr×Obj):=fp.filterMap fun b=>(h.get? b).map fun o=>(b,o)
def eqb {fp:List Addr}{h:Heap}{b:Addr}{o:Obj}(hb:b∈fp)(e:h.get? b=some o):(b,o)∈pinsAt fp h:=mem_filterMap.mpr ⟨b,hb,by rw[e];rfl⟩
theorem uqA {fp:List Addr}{h:Heap}{p:Addr×Obj}(hp:p∈pinsAt fp h):p.1∈fp∧h.get? p.1=some p.2:=by
 obtain⟨b,hb,e⟩:=mem_filterMap.mp hp
 cases q:h.get? b with
 |none=>rw[q] at e;cases e
 |some o=>
  rw[q] at e
  have e':(b,o)=p:=Option.some.inj e
  subst e'
  exact⟨hb,q⟩
def Inv.pinned {pins:List (Addr×Obj)}{σ:St}{H:Hp}{s:Shared}{fp:List Addr}(I:Inv X pins σ H s)(hf:∀b∈fp,FpOk X pins H b)(ho:∀b∈fp,∃o,s.heap.get? b=some o∧∀v,o.data≠.cell v):Inv X (pins++pinsAt fp s.heap) σ H s:=
 I.pins_of fun p hp=>(mem_append.mp hp).elim (fun z=>I.pin p (mem_append_right _ z)) fun z=>by
  obtain⟨hb,e⟩:=uqA z
  obtain⟨f0,f1,f2,_⟩:=hf p.1 hb
  obtain⟨o,e',d⟩:=ho p.1 hb
  rw[e] at e';cases e'
  exact⟨e,f0,f1,f2,d⟩
def Inv.unpinned {pins pl:List (Addr×Obj)}{σ:St}{H:Hp}{s:Shared}(I:Inv X (pins++pl) σ H s):Inv X pins σ H s:=I.pins_of fun p hp=>I.pin p (mem_append_right _ (mem_append_left _ hp))
theorem gq1 {iter:Expr}{body:List Stmt}{wi:TI}{g:TG}{tb:TS}{pos:Pos}(hp:PassesOwn (model X.prog X.w) X.A X.env X.xe)(hc:X.calm=true)(hi:PI X tg iter wi)(hg:PG X tg g)(hb:PSs X body tb)
  (hs:∀x,foldedSetIterable iter X.env x=pure x:=by intro _;rfl):PS X (.For tg iter body [] pos) (tFor wi g tb):=by
 intro ac s σ H D I h
 refine wpAny_For (thn (hi ac s σ H _ I h) fun v s1 h1=>thn h1 fun ap s2 h2=>?_) hs
 obtain⟨it,fp,tn,J,H2,e,I2,T,am,f2,W,⟨m0,w0⟩,af⟩:=h2
 subst e
 have ae:∀{H':Hp},(∀b∈fp,H' b=none)->∀b∈fp,FpOk X ac H' b:=fun hn b hb=>⟨hn b hb,(f2 b hb).2⟩
 refine codeAny_forLoop_any (fun n s'=>∃i σ' H',Inv X ac σ' H' s'∧tn i s'.heap∧(∀b∈fp,H' b=none)∧W i n σ' H') ?_ m0 ⟨0,σ,H2,I2,am,fun b hb=>(f2 b hb).1,w0⟩
 rintro n s3 ⟨i,σ3,H3,I3,aj,al,w3⟩
 rcases af i n σ3 H3 w3 with⟨ag,qn⟩|⟨go,N,hN,ah⟩
 ·refine wpAny_passesOwn hp (thn (T.done X rfl rfl rfl hc i ac s3 σ3 H3 X.xe I3 (ae al) aj ag) fun r s4 W'=>?_)
  obtain⟨hr,I4⟩:=W'
  subst hr
  exact wpAny_execs_nil ⟨σ3,H3,I4,qn⟩
 ·refine wpAny_passesOwn hp (thn (T.item X rfl rfl rfl hc i ac s3 σ3 H3 X.xe I3 (ae al) aj go) fun r s4 W'=>?_)
  obtain⟨u,hr,h4⟩:=W'
  subst hr
  refine wpAny_passesOwn hp (thn h4 fun _ s5 W'=>?_)
  obtain⟨x,H5,I5,r5,y5,ai,ao⟩:=W'
  have aq:=I5.pinned (ae ao) (T.obj _ _ ai)
  refine wpAny_passesOwn hp (thn (hg _ s5 σ3 H5 x u _ aq r5 (ah x H5 y5)) fun _ s6 W'=>?_)
  obtain⟨σ6,H6,I6,q6⟩:=W'
  refine wpAny_passesOwn hp (thn (hb _ s6 σ6 H6 _ I6 q6) fun f s7 q7=>?_)
  have ad:∀{σ7:St}{H7:Hp},Inv X (ac++pinsAt fp s5.heap) σ7 H7 s7->N σ7 H7->∃m,m < n∧∃i σ' H',Inv X ac σ' H' s7∧tn i s7.heap∧(∀b∈fp,H' b=none)∧W i m σ' H':=fun {σ7 H7} I7 n7=>by
   obtain⟨m',hm,w7⟩:=hN σ7 H7 n7
   refine⟨m',hm,i+1,σ7,H7,I7.unpinned,T.keep _ _ _ ai fun b hb o e=>(I7.pin (b,o) (mem_append_right _ (mem_append_right _ (eqb hb e)))).1,fun b hb=>?_,w7⟩
   obtain⟨o,e,d⟩:=T.obj _ _ ai b hb
   exact (I7.pin (b,o) (mem_append_right _ (mem_append_right _ (eqb hb e)))).2.1
  cases f with
  |next=>obtain⟨σ7,H7,I7,n7⟩:=q7;exact ad I7 n7
  |cont=>obtain⟨σ7,H7,I7,n7⟩:=q7;exact ad I7 n7
  |brk=>obtain⟨σ7,H7,I7,q7⟩:=q7;exact⟨σ7,H7,I7.unpinned,q7⟩
  |ret v=>obtain⟨x7,σ7,H7,I7,r7,q7⟩:=q7;exact⟨x7,σ7,H7,I7.unpinned,r7,q7⟩
end
theorem vq5 {K:W.Frag}{a:Addr}{xs:List V}{g:TG}{tb:TS}{D:Ends}{σ:St}{H:Hp}(Pv:Nat->St->Hp->Prop)(h0:Pv 0 σ H)(hl:∀i σ H,i≤xs.length->Pv i σ H->SqL K H a xs)
  (hs:∀i x σ H,xs[i]?=some x->Pv i σ H->g x σ H fun σ2 H2=>tb {D with nx:=Pv (i+1),ct:=Pv (i+1),bk:=D.nx} σ2 H2) (hd:∀σ H,Pv xs.length σ H->D.nx σ H) :
  ∃W:Nat->Nat->St->Hp->Prop,(∃m,W 0 m σ H)∧∀i m σ H,W i m σ H ->
   ((Itl K a).stop i H∧D.nx σ H)∨((Itl K a).go i H∧∃N:St->Hp->Prop,(∀σ' H',N σ' H'->∃m',m' < m∧W (i+1) m' σ' H')∧∀x H',(Itl K a).yld i H x H'->g x σ H' fun σ2 H2=>tb {D with nx:=N,ct:=N,bk:=D.nx} σ2 H2):=by
 refine⟨fun i m σ H=>m=xs.length - i∧i≤xs.length∧Pv i σ H,⟨xs.length,by simp,Nat.zero_le _,h0⟩,?_⟩
 rintro i m σ H ⟨rfl,hi,p⟩
 have q:=hl i σ H hi p
 by_cases ac:i < xs.length
 ·refine .inr ⟨⟨xs,xs[i],q,by simp[ac]⟩,Pv (i+1),fun σ' H' p'=>⟨xs.length - (i+1),by lia,rfl,ac,p'⟩,fun x H' y=>?_⟩
  obtain⟨e,y⟩:=y
  subst e
  exact hs i x σ _ (y xs q) p
 ·have e:i=xs.length:=by lia
  subst e
  exact .inl ⟨⟨xs,q,Nat.le_refl _⟩,hd σ H p⟩
theorem xqn {K:W.Frag}{a:Addr}{xs:List V}{g:TG}{tb:TS}{D:Ends}{σ:St}{H:Hp}(Pv:Nat->St->Hp->Prop)(h0:Pv 0 σ H)(hl:∀i σ H,i≤xs.length->Pv i σ H->SqT K H a xs)
  (hs:∀i x σ H,xs[i]?=some x->Pv i σ H->g x σ H fun σ2 H2=>tb {D with nx:=Pv (i+1),ct:=Pv (i+1),bk:=D.nx} σ2 H2) (hd:∀σ H,Pv xs.length σ H->D.nx σ H) :
  ∃W:Nat->Nat->St->Hp->Prop,(∃m,W 0 m σ H)∧∀i m σ H,W i m σ H ->
   ((Itt K a).stop i H∧D.nx σ H)∨((Itt K a).go i H∧∃N:St->Hp->Prop,(∀σ' H',N σ' H'->∃m',m' < m∧W (i+1) m' σ' H')∧∀x H',(Itt K a).yld i H x H'->g x σ H' fun σ2 H2=>tb {D with nx:=N,ct:=N,bk:=D.nx} σ2 H2):=by
 refine⟨fun i m σ H=>m=xs.length - i∧i≤xs.length∧Pv i σ H,⟨xs.length,by simp,Nat.zero_le _,h0⟩,?_⟩
 rintro i m σ H ⟨rfl,hi,p⟩
 have q:=hl i σ H hi p
 by_cases ac:i < xs.length
 ·refine .inr ⟨⟨xs,xs[i],q,by simp[ac]⟩,Pv (i+1),fun σ' H' p'=>⟨xs.length - (i+1),by lia,rfl,ac,p'⟩,fun x H' y=>?_⟩
  obtain⟨e,y⟩:=y
  subst e
  exact hs i x σ _ (y xs q) p
 ·have e:i=xs.length:=by lia
  subst e
  exact .inl ⟨⟨xs,q,Nat.le_refl _⟩,hd σ H p⟩
theorem uqz {lo:Int}{n:Nat}{g:TG}{tb:TS}{D:Ends}{σ:St}{H:Hp}(Pv:Nat->St->Hp->Prop)(h0:Pv 0 σ H)
  (hs:∀i σ H,i < n->Pv i σ H->g (.int (lo+i)) σ H fun σ2 H2=>tb {D with nx:=Pv (i+1),ct:=Pv (i+1),bk:=D.nx} σ2 H2) (hd:∀σ H,Pv n σ H->D.nx σ H) :
  ∃W:Nat->Nat->St->Hp->Prop,(∃m,W 0 m σ H)∧∀i m σ H,W i m σ H ->
   ((Itr lo n).stop i H∧D.nx σ H)∨((Itr lo n).go i H∧∃N:St->Hp->Prop,(∀σ' H',N σ' H'->∃m',m' < m∧W (i+1) m' σ' H')∧∀x H',(Itr lo n).yld i H x H'->g x σ H' fun σ2 H2=>tb {D with nx:=N,ct:=N,bk:=D.nx} σ2 H2):=by
 refine⟨fun i m σ H=>m=n - i∧i≤n∧Pv i σ H,⟨n,by simp,Nat.zero_le _,h0⟩,?_⟩
 rintro i m σ H ⟨rfl,hi,p⟩
 by_cases ac:i < n
 ·refine .inr ⟨ac,Pv (i+1),fun σ' H' p'=>⟨n - (i+1),by lia,rfl,ac,p'⟩,fun x H' y=>?_⟩
  obtain⟨e,y⟩:=y
  subst e y
  exact hs i σ _ ac p
 ·have e:i=n:=by lia
  subst e
  exact .inl ⟨Nat.le_refl _,hd σ H p⟩
abbrev R2:=V->V->Hp->VK->Prop
def OpR (X:Cx)(f:Value->Value->Sem Value)(r:R2):Prop:=
 ∀(pins:List (Addr×Obj)) (s:Shared) (σ:St) (H:Hp) (x y:V) (v u:Value) (Q:VK),Inv X pins σ H s->RelV x v->RelV y u->r x y H Q ->
  wpAny (model X.prog X.w) X.A (f v u) (EP X pins σ Q) X.xe s
def UnR (X:Cx)(f:Value->Sem Value)(r:V->Hp->VK->Prop):Prop:=
 ∀(pins:List (Addr×Obj)) (s:Shared) (σ:St) (H:Hp) (x:V) (v:Value) (Q:VK),Inv X pins σ H s->RelV x v->r x H Q ->
  wpAny (model X.prog X.w) X.A (f v) (EP X pins σ Q) X.xe s
def CallR (X:Cx)(f:Value)(r:List V->Hp->VK->Prop):Prop:=
 ∀(pins:List (Addr×Obj)) (s:Shared) (σ:St) (H:Hp) (xs:List V) (us:List Value) (Q:VK),Inv X pins σ H s->Vals xs us->r xs H Q ->
  wpAny (model X.prog X.w) X.A (call f us) (EP X pins σ Q) X.xe s
def tOp (r:R2)(ta tb:TE):TE:=fun σ H Q=>ta σ H fun x H1=>tb σ H1 fun y H2=>r x y H2 Q
def tUn (r:V->Hp->VK->Prop)(ta:TE):TE:=fun σ H Q=>ta σ H fun x H1=>r x H1 Q
def rI (C:Int->Int->Prop)(g:Int->Int->V):R2:=fun x y H Q=>∃i j,x=.int i∧y=.int j∧C i j∧Q (g i j) H
def rI0 (g:Int->Int->V):R2:=fun x y H Q=>∃i j,x=.int i∧y=.int j∧Q (g i j) H
def rU (g:Int->V):V->Hp->VK->Prop:=fun x H Q=>∃i,x=.int i∧Q (g i) H
section
variable {X:Cx}{a b c:Expr}{ta tb tc:TE}{pos:Pos}
theorem binT (ha:PE X a ta)(hb:PE X b tb){pins:List (Addr×Obj)}{s:Shared}{σ:St}{H:Hp}{R:V->V->Hp->Prop}(I:Inv X pins σ H s)
  (h:ta σ H fun x H1=>tb σ H1 fun y H2=>R x y H2) {Q:Value->Shared->Prop}{f:Value->Value->Sem Value}
  (hf:∀v u s2 x y H2,Inv X pins σ H2 s2->RelV x v->RelV y u->R x y H2->wpAny (model X.prog X.w) X.A (f v u) Q X.xe s2) :
  wpAny (model X.prog X.w) X.A (eval a X.env) (fun v s₁=>wpAny (model X.prog X.w) X.A (eval b X.env) (fun u s₂=>wpAny (model X.prog X.w) X.A (f v u) Q X.xe s₂) X.xe s₁) X.xe s:=by
 refine thn (ha pins s σ H _ I h) fun v s1 W'=>?_
 obtain⟨x,H1,I1,r1,q1⟩:=W'
 refine thn (hb pins s1 σ H1 _ I1 q1) fun u s2 W'=>?_
 obtain⟨y,H2,I2,r2,q2⟩:=W'
 exact hf v u s2 x y H2 I2 r1 r2 q2
def aqi {op:Operator}{r:R2}(ho:OpR X (binaryOp op) r)(ha:PE X a ta)(hb:PE X b tb):PE X (.BinOp a op b pos) (tOp r ta tb):=by
 intro pins s σ H Q I h
 exact wpAny_BinOp (binT ha hb I h fun v u s2 x y H2 I2 rx ry q=>ho pins s2 σ H2 x y v u Q I2 rx ry q)
def Aq1 {op:UnaryOp}{r:V->Hp->VK->Prop}(ho:UnR X (unaryOp op) r)(ha:PE X a ta):PE X (.UnaryOp op a pos) (tUn r ta):=by
 intro pins s σ H Q I h
 exact UnaryOp_ (thn (ha pins s σ H _ I h) fun v s1 ⟨x,H1,I1,r1,q1⟩=>ho pins s1 σ H1 x v Q I1 r1 q1)
def opI {f:Value->Value->Sem Value}{C:Int->Int->Prop}{g:Int->Int->Int}
  (rule:∀(i j:Int) (t u:Tok) (s:Shared) (Q:Value->Shared->Prop) (E:Value->Shared->Prop),C i j->Q (.int (g i j) s.toks) {s with toks:=s.toks+1}->wpAny (model X.prog X.w) X.A (f (.int i t) (.int j u)) Q E s) :
  OpR X f (rI C fun i j=>.int (g i j)):=by
 intro pins s σ H x y v u Q I rx ry h
 obtain⟨i,j,rfl,rfl,hc,q⟩:=h
 obtain⟨t,rfl⟩:=rx
 obtain⟨t',rfl⟩:=ry
 exact rule i j t t' s _ _ hc ⟨.int (g i j),H,I.tok _,⟨_,rfl⟩,q⟩
def opI0 {f:Value->Value->Sem Value}{g:Int->Int->Int}
  (rule:∀(i j:Int) (t u:Tok) (s:Shared) (Q:Value->Shared->Prop) (E:Value->Shared->Prop),Q (.int (g i j) s.toks) {s with toks:=s.toks+1}->wpAny (model X.prog X.w) X.A (f (.int i t) (.int j u)) Q E s) :
  OpR X f (rI0 fun i j=>.int (g i j)):=by
 intro pins s σ H x y v u Q I rx ry h
 obtain⟨i,j,rfl,rfl,q⟩:=h
 obtain⟨t,rfl⟩:=rx
 obtain⟨t',rfl⟩:=ry
 exact rule i j t t' s _ _ ⟨.int (g i j),H,I.tok _,⟨_,rfl⟩,q⟩
def opB0 {f:Value->Value->Sem Value}{g:Int->Int->Bool}
  (rule:∀(i j:Int) (t u:Tok) (s:Shared) (Q:Value->Shared->Prop) (E:Value->Shared->Prop),Q (.bool (g i j)) s->wpAny (model X.prog X.w) X.A (f (.int i t) (.int j u)) Q E s) :
  OpR X f (rI0 fun i j=>.bl (g i j)):=by
 intro pins s σ H x y v u Q I rx ry h
 obtain⟨i,j,rfl,rfl,q⟩:=h
 obtain⟨t,rfl⟩:=rx
 obtain⟨t',rfl⟩:=ry
 exact rule i j t t' s _ _ ⟨.bl (g i j),H,I,rfl,q⟩
def CDiv (i j:Int):Prop:=0 < j∧j < 1073741824
def CPow (i j:Int):Prop:=0≤j∧j≤1000000∧i.natAbs < 2 ^ 64
def CMul (i j:Int):Prop:=(-(2 ^ 64) < i∧i < 2 ^ 64)∨(-(2 ^ 64) < j∧j < 2 ^ 64)
def CMul.ok {i j:Int}(h:CMul i j):IntMulOk i j:=by
 rcases h with⟨h1,h2⟩|⟨h1,h2⟩
 ·exact .of_left (intBits_le_64 h1 h2)
 ·exact .of_right (intBits_le_64 h1 h2)
def Aqc:OpR X (binaryOp .Add) (rI0 fun i j=>.int (i+j)):=opI0 fun _ _ _ _ _ _ _ q=>add_int q
def qq2:OpR X (binaryOp .Sub) (rI0 fun i j=>.int (i - j)):=opI0 fun _ _ _ _ _ _ _ q=>sub_int q
def Aqi:OpR X (binaryOp .Mult) (rI CMul fun i j=>.int (i * j)):=opI fun _ _ _ _ _ _ _ hc q=>mul_int q hc.ok
def aqz:OpR X (binaryOp .FloorDiv) (rI CDiv fun i j=>.int (i / j)):=opI fun i j _ _ _ _ _ hc q=>by
 have h1:(0:Int) < j:=hc.1
 have h2:j < 1073741824:=hc.2
 exact floordiv_int (by lia) (by rw[Int.fdiv_eq_ediv_of_nonneg i (by lia)];exact q) (.inl (PyProof.noPylong_small (by lia)))
def aqJ:OpR X (binaryOp .Mod) (rI (fun _ j=>0 < j) fun i j=>.int (i % j)):=opI fun i j _ _ _ _ _ hc q=>by
 have h1:(0:Int) < j:=hc
 exact mod_int' (by lia) (by rw[Int.fmod_eq_emod_of_nonneg i (by lia)];exact q)
def tqZ:OpR X (binaryOp .Pow) (rI CPow fun i j=>.int (i ^ j.toNat)):=opI fun _ _ _ _ _ _ _ hc q=>pow_int_small hc.1 hc.2.1 hc.2.2 q
def unI {f:Value->Sem Value}{g:Int->Int}
  (rule:∀(i:Int) (t:Tok) (s:Shared) (Q:Value->Shared->Prop) (E:Value->Shared->Prop),Q (.int (g i) s.toks) {s with toks:=s.toks+1}->wpAny (model X.prog X.w) X.A (f (.int i t)) Q E s) :
  UnR X f (rU fun i=>.int (g i)):=by
 intro pins s σ H x v Q I rx h
 obtain⟨i,rfl,q⟩:=h
 obtain⟨t,rfl⟩:=rx
 exact rule i t s _ _ ⟨.int (g i),H,I.tok _,⟨_,rfl⟩,q⟩
def Aqb:UnR X (unaryOp .USub) (rU fun i=>.int (-i)):=unI fun _ _ _ _ _ q=>neg_int q
end
def scal:V->V->Bool
 |.non,.non=>true|.non,.int _=>true|.int _,.non=>true|.non,.bl _=>true|.bl _,.non=>true|.non,.str _=>true|.str _,.non=>true
 |.int _,.int _=>true|.bl _,.bl _=>true|.str _,.str _=>true|.byt _,.byt _=>true
 |.int _,.str _=>true|.str _,.int _=>true|.bl _,.str _=>true|.str _,.bl _=>true
 |_,_=>false
def rEq:R2:=fun x y H Q=>scal x y=true∧Q (.bl (decide (x=y))) H
def rNe:R2:=fun x y H Q=>scal x y=true∧Q (.bl (!decide (x=y))) H
def tq1 {i j:Int}:decide (V.int i=V.int j)=(i == j):=by
 rw[Bool.eq_iff_iff]
 simp
def wqJ {i j:Bool}:decide (V.bl i=V.bl j)=(i == j):=by
 rw[Bool.eq_iff_iff]
 simp
def uqh {i j:Str}:decide (V.str i=V.str j)=(i == j):=by
 rw[Bool.eq_iff_iff]
 simp
def tqs {i j:Array UInt8}:decide (V.byt i=V.byt j)=(i.toList == j.toList):=by
 rw[Bool.eq_iff_iff]
 cases i
 cases j
 simp
section
variable {X:Cx}{a b c:Expr}{ta tb tc:TE}{pos:Pos}
def aqV {pins:List (Addr×Obj)}{σ:St}{H:Hp}{s:Shared}{Q:VK}{k k':Bool}(I:Inv X pins σ H s)(q:Q (.bl k) H)(e:k=k'):EP X pins σ Q (.bool k') s:=by
 subst e
 exact⟨.bl k,H,I,rfl,q⟩
theorem bqk:OpR X (compareOp .Eq) rEq:=by
 intro ac s σ H x y v u Q I rx ry h
 obtain⟨hs,q⟩:=h
 cases x with
 |non=>
  cases rx
  cases y with
  |non=>cases ry;exact PySem.EqNone.eq_none_none (aqV I q (by simp))
  |bl j=>cases ry;exact PySem.EqNone.eq_none_bool (aqV I q (by simp))
  |int j=>obtain⟨t',rfl⟩:=ry;exact PySem.EqNone.eq_none_int (aqV I q (by simp))
  |str j=>obtain⟨t',rfl⟩:=ry;exact PySem.EqNone.eq_none_str (aqV I q (by simp))
  |_=>exact absurd (show false=true from hs) Bool.false_ne_true
 |bl i=>
  cases rx
  cases y with
  |non=>cases ry;exact PySem.EqNone.eq_bool_none (aqV I q (by simp))
  |bl j=>cases ry;exact eq_bool (aqV I q wqJ)
  |str j=>obtain⟨t',rfl⟩:=ry;exact PySem.EqMixed.eq_bool_str (aqV I q (by simp))
  |_=>exact absurd (show false=true from hs) Bool.false_ne_true
 |int i=>
  obtain⟨t,rfl⟩:=rx
  cases y with
  |non=>cases ry;exact PySem.EqNone.eq_int_none (aqV I q (by simp))
  |int j=>obtain⟨t',rfl⟩:=ry;exact eq_int (aqV I q tq1)
  |str j=>obtain⟨t',rfl⟩:=ry;exact PySem.EqMixed.eq_int_str (aqV I q (by simp))
  |_=>exact absurd (show false=true from hs) Bool.false_ne_true
 |str i=>
  obtain⟨t,rfl⟩:=rx
  cases y with
  |non=>cases ry;exact PySem.EqNone.eq_str_none (aqV I q (by simp))
  |bl j=>cases ry;exact PySem.EqMixed.eq_str_bool (aqV I q (by simp))
  |int j=>obtain⟨t',rfl⟩:=ry;exact PySem.EqMixed.eq_str_int (aqV I q (by simp))
  |str j=>obtain⟨t',rfl⟩:=ry;exact eq_str (aqV I q uqh)
  |_=>exact absurd (show false=true from hs) Bool.false_ne_true
 |byt i=>
  obtain⟨t,rfl⟩:=rx
  cases y with
  |byt j=>obtain⟨t',rfl⟩:=ry;exact PySem.W.eq_bytes (aqV I q tqs)
  |_=>exact absurd (show false=true from hs) Bool.false_ne_true
 |_=>cases y <;> exact absurd (show false=true from hs) Bool.false_ne_true
theorem lqi:OpR X (compareOp .NotEq) rNe:=by
 intro ac s σ H x y v u Q I rx ry h
 obtain⟨hs,q⟩:=h
 cases x with
 |non=>
  cases rx
  cases y with
  |non=>cases ry;exact PySem.EqNone.ne_none_none (aqV I q (by simp))
  |bl j=>cases ry;exact PySem.EqNone.ne_none_bool (aqV I q (by simp))
  |int j=>obtain⟨t',rfl⟩:=ry;exact PySem.EqNone.ne_none_int (aqV I q (by simp))
  |str j=>obtain⟨t',rfl⟩:=ry;exact PySem.EqNone.ne_none_str (aqV I q (by simp))
  |_=>exact absurd (show false=true from hs) Bool.false_ne_true
 |bl i=>
  cases rx
  cases y with
  |non=>cases ry;exact PySem.EqNone.ne_bool_none (aqV I q (by simp))
  |bl j=>cases ry;exact ne_bool (aqV I q (congrArg not wqJ))
  |str j=>obtain⟨t',rfl⟩:=ry;exact PySem.EqMixed.ne_bool_str (aqV I q (by simp))
  |_=>exact absurd (show false=true from hs) Bool.false_ne_true
 |int i=>
  obtain⟨t,rfl⟩:=rx
  cases y with
  |non=>cases ry;exact PySem.EqNone.ne_int_none (aqV I q (by simp))
  |int j=>obtain⟨t',rfl⟩:=ry;exact ne_int (aqV I q (congrArg not tq1))
  |str j=>obtain⟨t',rfl⟩:=ry;exact PySem.EqMixed.ne_int_str (aqV I q (by simp))
  |_=>exact absurd (show false=true from hs) Bool.false_ne_true
 |str i=>
  obtain⟨t,rfl⟩:=rx
  cases y with
  |non=>cases ry;exact PySem.EqNone.ne_str_none (aqV I q (by simp))
  |bl j=>cases ry;exact PySem.EqMixed.ne_str_bool (aqV I q (by simp))
  |int j=>obtain⟨t',rfl⟩:=ry;exact PySem.EqMixed.ne_str_int (aqV I q (by simp))
  |str j=>obtain⟨t',rfl⟩:=ry;exact ne_str (aqV I q (congrArg not uqh))
  |_=>exact absurd (show false=true from hs) Bool.false_ne_true
 |byt i=>
  obtain⟨t,rfl⟩:=rx
  cases y with
  |byt j=>obtain⟨t',rfl⟩:=ry;exact PySem.W.ne_bytes (aqV I q (congrArg not tqs))
  |_=>exact absurd (show false=true from hs) Bool.false_ne_true
 |_=>cases y <;> exact absurd (show false=true from hs) Bool.false_ne_true
def qqh:OpR X (compareOp .Lt) (rI0 fun i j=>.bl (decide (i < j))):=opB0 fun _ _ _ _ _ _ _ q=>lt_int q
def vqm:OpR X (compareOp .LtE) (rI0 fun i j=>.bl (decide (i≤j))):=opB0 fun _ _ _ _ _ _ _ q=>le_int q
def oqb:OpR X (compareOp .Gt) (rI0 fun i j=>.bl (decide (j < i))):=opB0 fun _ _ _ _ _ _ _ q=>gt_int q
def tqL:OpR X (compareOp .In) (fun x y H Q=>∃i j,x=.str i∧y=.str j∧Q (.bl (!(Builtin.Str.occurrences j i 0 j.length 1).isEmpty)) H):=by
 intro pins s σ H x y v u Q I rx ry h
 obtain⟨i,j,rfl,rfl,q⟩:=h
 obtain⟨t,rfl⟩:=rx
 obtain⟨t',rfl⟩:=ry
 exact in_str (aqV I q rfl)
theorem zqN:OpR X (compareOp .Is) (fun x y H Q=>y=.non∧Q (.bl (decide (x=.non))) H):=by
 intro pins s σ H x y v u Q I rx ry h
 obtain⟨rfl,q⟩:=h
 cases ry
 refine is_none_gen (aqV I q ?_)
 cases x <;> first
  | (cases rx;rfl)
  | (obtain⟨t,rfl⟩:=rx;rfl)
theorem xqk:OpR X (compareOp .IsNot) (fun x y H Q=>y=.non∧Q (.bl (!decide (x=.non))) H):=by
 intro pins s σ H x y v u Q I rx ry h
 obtain⟨rfl,q⟩:=h
 cases ry
 refine isnot_none_gen (aqV I q ?_)
 cases x <;> first
  | (cases rx;rfl)
  | (obtain⟨t,rfl⟩:=rx;rfl)
def nomark (b:Expr){op:CmpOp}(h:op≠.In:=by decide)(h2:op≠.NotIn:=by decide):behindInMarks op b=false:=by
 have e1:(op == CmpOp.In)=false:=by cases op <;> first|rfl|exact absurd rfl h
 have e2:(op == CmpOp.NotIn)=false:=by cases op <;> first|rfl|exact absurd rfl h2
 cases b <;> simp[behindInMarks,e1,e2]
def aq5 {op:CmpOp}{r:R2}(ho:OpR X (compareOp op) r)(ha:PE X a ta)(hb:PE X b tb)(hm:behindInMarks op b=false):PE X (.Compare a [op] [b] pos) (tOp r ta tb):=by
 intro pins s σ H Q I h
 exact wpAny_Compare1 (binT ha hb I h fun v u s2 x y H2 I2 rx ry q=>ho pins s2 σ H2 x y v u Q I2 rx ry q) hm
def tTest (t:TE):TT:=fun σ H Q=>t σ H fun x H'=>∃k,x=.bl k∧Q k H'
def aqj {op:CmpOp}{r:R2}(ho:OpR X (compareOp op) r)(ha:PE X a ta)(hb:PE X b tb)(hm:behindInMarks op b=false):PT X (.Compare a [op] [b] pos) (tTest (tOp r ta tb)):=by
 intro ac s σ H Q I h
 refine wpAny_isTrue_Compare1 (thn (ha ac s σ H _ I h) fun v s1 ⟨x,H1,I1,r1,q1⟩=>thn (hb ac s1 σ H1 _ I1 q1) fun u s2 ⟨y,H2,I2,r2,q2⟩=>
  thn (ho ac s2 σ H2 x y v u _ I2 r1 r2 q2) fun c s3 ⟨z,H3,I3,r3,k,e,q3⟩=>?_) hm
 subst e
 cases r3
 exact wpAny_truthy_bool ⟨H3,I3,q3⟩
def tChain (r r':R2)(ta tb tc:TE):TE:=fun σ H Q=>ta σ H fun x H1=>tb σ H1 fun y H2=>r x y H2 fun z H3=>∃k,z=.bl k ∧
 (if k=true then tc σ H3 fun w' H4=>r' y w' H4 Q else Q (.bl false) H3)
theorem qqt {op op':CmpOp}{r r':R2}(ho:OpR X (compareOp op) r)(ho':OpR X (compareOp op') r')(ha:PE X a ta)(hb:PE X b tb)(hc:PE X c tc)
  (hm:lastMarks [op,op'] [b,c]=false:=by with_unfolding_all rfl):PE X (.Compare a [op,op'] [b,c] pos) (tChain r r' ta tb tc):=by
 intro ac s σ H Q I h
 refine Compare_chain (thn (ha ac s σ H _ I h) fun v s1 ⟨x,H1,I1,r1,q1⟩=>chain_link (thn (hb ac s1 σ H1 _ I1 q1) fun u s2 ⟨y,H2,I2,r2,q2⟩=>
  thn (ho ac s2 σ H2 x y v u _ I2 r1 r2 q2) fun d s3 ⟨z,H3,I3,r3,k,e,q3⟩=>?_)) hm
 subst e
 cases r3
 refine wpAny_truthy_bool ?_
 cases k with
 |false=>exact ite_ff ⟨.bl false,H3,I3,rfl,q3⟩
 |true=>exact ite_tt (chain_last (thn (hc ac s3 σ H3 _ I3 q3) fun w' s4 ⟨z',H4,I4,r4,q4⟩=>ho' ac s4 σ H4 y z' u w' Q I4 r2 r4 q4))
def line63:(sizeLine:Nat) < 2 ^ 63:=by rw[sizeLine_eq];decide
def rqK:OpR X (binaryOp .Add) (fun x y H Q=>∃i j,x=.str i∧y=.str j∧i.length+j.length≤sizeLine∧Q (.str (i++j)) H):=by
 intro pins s σ H x y v u Q I rx ry h
 obtain⟨i,j,rfl,rfl,hz,q⟩:=h
 obtain⟨t,rfl⟩:=rx
 obtain⟨t',rfl⟩:=ry
 exact add_str (fun t' tk=>⟨.str (i++j),H,I.tok _,⟨_,rfl⟩,q⟩) hz
theorem vals1 {x:V}{us:List Value}(r:Vals [x] us):∃u,us=[u]∧RelV x u:=by
 cases r with
 |cons r1 r2=>cases r2;exact⟨_,rfl,r1⟩
theorem vals2 {x y:V}{us:List Value}(r:Vals [x,y] us):∃u w',us=[u,w']∧RelV x u∧RelV y w':=by
 cases r with
 |cons r1 r2=>
  cases r2 with
  |cons r3 r4=>cases r4;exact⟨_,_,rfl,r1,r3⟩
def hqh:CallR X (.type "str") (fun xs H Q=>∃i,xs=[.int i]∧i.natAbs.log2 < 1920∧Q (.str (toString i)) H):=by
 intro pins s σ H xs us Q I r h
 obtain⟨i,rfl,hz,q⟩:=h
 obtain⟨u,rfl,t,rfl⟩:=vals1 r
 exact PySem.P.str_of_int hz ⟨.str _,H,I.tok _,⟨_,rfl⟩,q⟩
def vqq:CallR X (.builtin "ord") (fun xs H Q=>∃x,xs=[.str x]∧x.length=1∧Q (.int (x.cps.getD 0 0:Nat)) H):=by
 intro pins s σ H xs us Q I r h
 obtain⟨x,rfl,hz,q⟩:=h
 obtain⟨u,rfl,t,rfl⟩:=vals1 r
 exact ord_of_one hz ⟨.int _,H,I.tok _,⟨_,rfl⟩,q⟩
end
structure ObjM (h:Heap)(x dx C:Addr)(mA:Str->Option Value):Prop where
 obj:h.get? x=some (PySem.W.instObj C dx)
 ns:h.Ns1 dx mA
 ne:dx≠x
theorem oq1 {h:Heap}{dx:Addr}{mA:Str->Option Value}(n:h.Ns1 dx mA):∃od,h.get? dx=some od∧∀name,PySem.W.lookIn name od=some (mA name):=by
 obtain⟨o,es,ep,ho,hd,hk,_,hm⟩:=n
 refine⟨o,ho,fun name=>?_⟩
 have e:=hm name
 unfold nsFind findBy at e
 rw[<- Array.find?_toList] at e
 unfold PySem.W.lookIn
 rw[hd]
 dsimp only
 split
 ·rename_i y q
  rw[q] at e
  exact congrArg some e
 ·rename_i q
  rw[q] at e
  have a:es.toList.any (·.refKey)=false:=by
   rw[List.any_eq_false]
   intro y hy
   obtain⟨z,t,ac⟩:=hk y (Array.mem_toList_iff.mp hy)
   simp[DictEntry.refKey,ac]
  have a':¬ es.toList.any (·.refKey)=true:=by rw[a];exact Bool.false_ne_true
  rw[if_neg a']
  exact congrArg some e
def ObjM.look {h:Heap}{x dx C:Addr}{mA:Str->Option Value}(I:ObjM h x dx C mA):∃od,PySem.W.InstAt h x (PySem.W.instObj C dx) C (some od)∧∀name,PySem.W.lookIn name od=some (mA name):=
 let ⟨od,ho,hl⟩:=oq1 I.ns
 ⟨od,⟨I.obj,rfl,rfl,ho⟩,hl⟩
section
variable {prog:Program}{w:World}{A:Around}{E:Value->Shared->Prop}{s:Shared}{K:W.Frag}{x dx C f:Addr}{mA:Str->Option Value}{name:Str}{v:Value}
def xqD {expr:Bool}{Q:Value->Shared->Prop}(X:K.In s.heap)(I:ObjM s.heap x dx C mA)(hg:PySem.W.plainGet K C name=true)(hh:PySem.W.hasDictIn K C=true)
  (ha:PySem.W.findIn K (.ref C) name=some none) (hv:mA name=some v) (hv':PySem.W.handedIn v=true) (h:Q v {s with toks:=s.toks+1}) :
  wpAny (model prog w) A (getAttr (.ref x) name expr) Q E s:=by
 obtain⟨od,J,hl⟩:=I.look
 exact PySem.W.get_value X J (PySem.W.plainGet_of hg).1 (PySem.W.findObj_own hh ha rfl (by rw[hl,hv])) hv' h
theorem vqN {pl:Sem Bool}{Q:Value×List Value->Shared->Prop}(X:K.In s.heap)(I:ObjM s.heap x dx C mA)(hg:PySem.W.plainGet K C name=true)
  (hf:PySem.W.findIn K (.ref C) name=some (some (.ref f))) (ht:PySem.W.isFn K (.ref f)=true) (hv:mA name=none) (h:Q (.ref f,[.ref x]) s) :
  wpAny (model prog w) A (getMethod (.ref x) name pl) Q E s:=by
 obtain⟨od,J,hl⟩:=I.look
 exact PySem.W.method_fn X J (PySem.W.plainGet_of hg).1 (PySem.W.plainGet_of hg).2 hf (beq_iff_eq.mp ht) (by show (PySem.W.lookIn name od).map (·.isSome)=some false;rw[hl,hv];rfl) h
theorem xqO {ns:List Str}{Q:Unit->Shared->Prop}(X:K.In s.heap)(I:ObjM s.heap x dx C mA)
  (hs:PySem.W.findIn K (.ref C) "__setattr__"=some (some (.builtin "object.__setattr__"))) (hp:PySem.W.plainOver K C=true) (ht:PySem.W.takerIn K C name=some none) (hh:PySem.W.hasDictIn K C=true)
  (hw:PySem.Within mA ns) (hsz:ns.length≤sizeLine)
  (h:∀h',ObjM h' x dx C (fun y=>if y=name then some v else mA y)->Heap.SameBut dx s.heap h'->Q () {s with heap:=h',toks:=s.toks+2}) :
  wpAny (model prog w) A (setAttr (.ref x) name v) Q E s:=by
 obtain⟨od,J,hl⟩:=I.look
 refine PySem.W.set_plain X J hs (PySem.W.osa_open (s:={ s with toks:=s.toks+1}) (r:=none) X J hp ht fun b=>?_)
 obtain⟨cd,hc,ag⟩:=PySem.W.any_some hh
 have hx:s.heap.get? x=some ⟨.ref C,some dx,.plain,#[]⟩:=I.obj
 refine wpAny_bind (wpAny_pure (wpAny_bind (wpAny_bind (wpAny_loadPart hx (wpAny_bind (PySem.W.Looks.here (s:={ s with toks:=s.toks+1}) (PySem.W.looks_clsIn X hc) ?_))))))
 rw[ag]
 refine wpAny_pure (a:=some dx) (wpAny_bind (wpAny_pure (wpAny_bind ?_)))
 refine wpAny_nsSet1 (s:={ s with toks:=s.toks+1}) I.ns fun h' ad ac=>?_
 obtain⟨oD,ai,aj,ae,af,ah⟩:=ad.count (PySem.Within.cons name v hw)
 refine wpAny_bind (wpAny_lookBehind ae (by rw[af];exact pastItsLine_dict (Nat.le_trans ah (by rw[length_cons];lia))) ?_)
 exact wpAny_pure (h _ ⟨(ac.2 _ (Ne.symm I.ne)).trans I.obj,ad,I.ne⟩ ac)
theorem vqj {R:Result->Shared->Prop}{vs:List Value}{kw:List (Str×Value)}(X:K.In s.heap)(hm:PySem.W.makesIn K C=true)
  (hi:PySem.W.findIn K (.ref C) "__init__"=some (some (.ref f))) (hf:PySem.W.typeIn K (.ref f)=some (.type "function"))
  (h:codeAny (model prog w) (A.under (.builtin "type.__call__" ⟨.ref C::vs,kw⟩)) (.call (.ref f) ⟨.ref (s.heap.objs.size+1)::vs,kw⟩) (PySem.W.InitBack (s.heap.objs.size+1) R)
   { s with heap:=(s.heap.push PySem.W.emptyDict).push (PySem.W.instObj C s.heap.objs.size)}) :
  codeAny (model prog w) A (.call (.ref C) ⟨vs,kw⟩) R s:=by
 obtain⟨hh,g,d,t,os⟩:=s
 exact PySem.W.make_core (PySem.W.makes_of X hm) (PySem.W.looks_findIn X hi) (fun self=>PySem.W.bind_fn X self hf) (.inl rfl) h
end
def putF (f:Str)(v:V):List (Str×V)->List (Str×V)
 |[]=>[(f,v)]
 | (g,x)::r=>if g=f then (g,v)::r else (g,x)::putF f v r
theorem lq4 (f g:Str)(v:V):∀fs:List (Str×V),(putF f v fs).lookup g=if g=f then some v else fs.lookup g
 |[]=>by
  show List.lookup g [(f,v)]=_
  by_cases h:g=f
  ·have hb:(g == f)=true:=beq_iff_eq.mpr h
   simp only[List.lookup,hb,if_pos h]
  ·have hb:(g == f)=false:=beq_eq_false_iff_ne.mpr h
   simp only[List.lookup,hb,if_neg h]
 | (k,x)::r=>by
  have ih:=lq4 f g v r
  rw[show putF f v ((k,x)::r)=(if k=f then (k,v)::r else (k,x)::putF f v r) from rfl]
  by_cases hk:k=f
  ·rw[if_pos hk]
   by_cases h:g=k
   ·have hb:(g == k)=true:=beq_iff_eq.mpr h
    simp only[List.lookup,hb,if_pos (h.trans hk)]
   ·have hb:(g == k)=false:=beq_eq_false_iff_ne.mpr h
    simp only[List.lookup,hb,if_neg (fun e:g=f=>h (e.trans hk.symm))]
  ·rw[if_neg hk]
   by_cases h:g=k
   ·have hb:(g == k)=true:=beq_iff_eq.mpr h
    simp only[List.lookup,hb,if_neg (fun e:g=f=>hk (h.symm.trans e))]
   ·have hb:(g == k)=false:=beq_eq_false_iff_ne.mpr h
    simp only[List.lookup,hb]
    exact ih
theorem lq8 (f:Str)(v:V):∀fs:List (Str×V),f∈(putF f v fs).map (·.1)∧∀g,g∈fs.map (·.1)->g∈(putF f v fs).map (·.1)
 |[]=>⟨by simp[putF],fun g h=>by simp at h⟩
 | (k,x)::r=>by
  obtain⟨i1,i2⟩:=lq8 f v r
  rw[show putF f v ((k,x)::r)=(if k=f then (k,v)::r else (k,x)::putF f v r) from rfl]
  by_cases hk:k=f
  ·rw[if_pos hk]
   subst hk
   exact⟨by simp,fun g h=>by simpa using h⟩
  ·rw[if_neg hk]
   refine⟨?_,fun g h=>?_⟩
   ·rw[map_cons]
    exact mem_cons_of_mem _ i1
   ·rw[map_cons] at h ⊢
    rcases mem_cons.mp h with e|e
    ·exact mem_cons.mpr (.inl e)
    ·exact mem_cons_of_mem _ (i2 g e)
theorem lqE (f:Str)(v:V):∀fs:List (Str×V),(putF f v fs).length≤fs.length+1
 |[]=>by simp[putF]
 | (k,x)::r=>by
  have ih:=lqE f v r
  rw[show putF f v ((k,x)::r)=(if k=f then (k,v)::r else (k,x)::putF f v r) from rfl]
  by_cases hk:k=f
  ·rw[if_pos hk,length_cons,length_cons];lia
  ·rw[if_neg hk,length_cons,length_cons];lia
theorem RelO.some_of {v:V}{o:Option Value}(r:RelO (some v) o):∃u,o=some u∧RelV v u:=by
 cases o with
 |none=>exact (show False from r).elim
 |some u=>exact⟨u,rfl,r⟩
theorem RelO.none_of {o:Option Value}(r:RelO none o):o=none:=by
 cases o with
 |none=>rfl
 |some u=>exact (show False from r).elim
theorem oqF {v:V}{u:Value}(r:RelV v u):PySem.W.handedIn u=true:=by
 cases v with
 |non=>cases (show u=Value.none from r);rfl
 |bl b=>cases (show u=Value.bool b from r);rfl
 |int i=>obtain⟨t,e⟩:=(show ∃t,u=Value.int i t from r);cases e;rfl
 |str x=>obtain⟨t,e⟩:=(show ∃t,u=Value.str x t from r);cases e;rfl
 |byt b=>obtain⟨t,e⟩:=(show ∃t,u=Value.bytes b t from r);cases e;rfl
 |flt b=>obtain⟨t,e⟩:=(show ∃t,u=Value.float b t from r);cases e;rfl
 |ref a=>cases (show u=Value.ref a from r);rfl
 |ty n=>cases (show u=Value.type n from r);rfl
section
variable {P:Program}{w:World}{H H':Hp}{h h':Heap}{a C dx:Addr}{fs fs':List (Str×V)}
def nqn (hok:HOk P w H h)(e:H a=some (.ins C dx fs)):∃mA,ObjM h a dx C mA∧(∀f,RelO (fs.lookup f) (mA f))∧PySem.Within mA (fs.map (·.1))∧fs.length≤1000∧H dx=some (.own a):=by
 obtain⟨d,z,ne,ob,mA,n,r,q⟩:=(show ObjOk P w H h a (.ins C dx fs) from hok a _ e)
 exact⟨mA,⟨ob,n,ne⟩,r,q,z,d⟩
end
structure Cls (K:W.Frag)(C:Addr):Prop where
 pg:PySem.W.plainGet K C Str.empty=true
 hd:PySem.W.hasDictIn K C=true
 po:PySem.W.plainOver K C=true
 sa:PySem.W.findIn K (.ref C) "__setattr__"=some (some (.builtin "object.__setattr__"))
def Cls.get {K:W.Frag}{C:Addr}(c:Cls K C)(f:Str):PySem.W.plainGet K C f=true:=c.pg
def NoAttr (K:W.Frag)(C:Addr)(f:Str):Prop:=PySem.W.findIn K (.ref C) f=some none
def NoAttr.taker {K:W.Frag}{C:Addr}{f:Str}(n:NoAttr K C f):PySem.W.takerIn K C f=some none:=by
 unfold PySem.W.takerIn
 rw[show PySem.W.findIn K (.ref C) f=some none from n]
 rfl
structure Con (K:W.Frag)(C:Addr)(f:Str)(v:V)(u:Value):Prop where
 at_:PySem.W.findIn K (.ref C) f=some (some u)
 rel:RelV v u
 get:PySem.W.specialIn K u "__get__"=some none
 cp:PySem.W.copiedNames.contains f=false
structure Meth (K:W.Frag)(C:Addr)(m:Str)(f:Addr):Prop where
 at_:PySem.W.findIn K (.ref C) m=some (some (.ref f))
 fn:PySem.W.isFn K (.ref f)=true
 kp:PySem.W.keepIn K (.ref f)=true
section
variable {X:Cx}{pins:List (Addr×Obj)}{σ:St}{H:Hp}{s:Shared}{a C dx:Addr}{fs:List (Str×V)}{f:Str}{v:V}{A:Around}{E:Value->Shared->Prop}
def rqW {b:Bool}{Q:Value->Shared->Prop}(I:Inv X pins σ H s)(e:H a=some (.ins C dx fs))(c:Cls X.K C)(n:NoAttr X.K C f)(l:fs.lookup f=some v)
  (h:∀u s',Inv X pins σ H s'->RelV v u->Q u s'):wpAny (model X.prog X.w) A (getAttr (.ref a) f b) Q E s:=by
 obtain⟨mA,O,r,_,_,_⟩:=nqn I.hok e
 obtain⟨u,hu,ru⟩:=RelO.some_of (v:=v) (o:=mA f) (by rw[<- l];exact r f)
 exact xqD I.kIn O (c.get f) c.hd n hu (oqF ru) (h u _ (I.tok _) ru)
def jq1 {m:Str}{g:Addr}{pl:Sem Bool}{Q:Value×List Value->Shared->Prop}(I:Inv X pins σ H s)(e:H a=some (.ins C dx fs))(c:Cls X.K C)(k:Meth X.K C m g)(l:fs.lookup m=none)
  (h:Q (.ref g,[.ref a]) s):wpAny (model X.prog X.w) A (getMethod (.ref a) m pl) Q E s:=by
 obtain⟨mA,O,r,_,_,_⟩:=nqn I.hok e
 have hn:mA m=none:=RelO.none_of (by rw[<- l];exact r m)
 exact vqN I.kIn O (c.get m) k.at_ k.fn hn h
theorem sqo {y:V}{u:Value}{Q:Unit->Shared->Prop}(I:Inv X pins σ H s)(e:H a=some (.ins C dx fs))(c:Cls X.K C)(n:NoAttr X.K C f)(hl:fs.length < 1000)(ry:RelV y u)
  (h:∀s',Inv X pins σ (upd H a (.ins C dx (putF f y fs))) s'->Q () s'):wpAny (model X.prog X.w) A (setAttr (.ref a) f u) Q E s:=by
 obtain⟨mA,O,r,wi,_,ho⟩:=nqn I.hok e
 have hz:(fs.map (·.1)).length≤sizeLine:=by rw[length_map,sizeLine_eq];lia
 refine xqO I.kIn O c.sa c.po n.taker c.hd wi hz fun h' O' sb=>h _ ?_
 have hd:∃o,h'.get? dx=some o:=let ⟨o,_,_,e',_⟩:=O'.ns;⟨o,e'⟩
 refine I.write (x:=a) (e:=dx) (by rw[e];exact True.intro) (.inr ho) (fun b q hb z=>(sb.2 b hb).trans z) hd ?_
 refine⟨by rw[aqp O.ne];exact ho,?_,O.ne,O'.obj,_,O'.ns,fun g=>?_,fun g hg=>?_⟩
 ·have:=lqE f y fs;lia
 ·show RelO ((putF f y fs).lookup g) (if g=f then some u else mA g)
  rw[lq4]
  by_cases q:g=f
  ·rw[if_pos q,if_pos q];exact ry
  ·rw[if_neg q,if_neg q];exact r g
 ·by_cases q:g=f
  ·rw[q];exact (lq8 f y fs).1
  ·refine (lq8 f y fs).2 g (wi g fun z=>hg ?_)
   show (if g=f then some u else mA g)=none
   rw[if_neg q];exact z
theorem Inv.made (I:Inv X pins σ H s):Inv X pins σ (upd (upd H s.heap.objs.size (.own (s.heap.objs.size+1))) (s.heap.objs.size+1) (.ins C s.heap.objs.size []))
  { s with heap:=(s.heap.push PySem.W.emptyDict).push (PySem.W.instObj C s.heap.objs.size)}:=by
 have e1:(s.heap.push PySem.W.emptyDict).get? s.heap.objs.size=some PySem.W.emptyDict:=Heap.get?_push_size s.heap rfl
 have e2:((s.heap.push PySem.W.emptyDict).push (PySem.W.instObj C s.heap.objs.size)).get? (s.heap.objs.size+1)=some (PySem.W.instObj C s.heap.objs.size):=by
  have:=Heap.get?_push_size (s.heap.push PySem.W.emptyDict) (o:=PySem.W.instObj C s.heap.objs.size) rfl
  rwa [Heap.size_push] at this
 have e3:(s.heap.push PySem.W.emptyDict).Ns s.heap.objs.size (fun _=>none):=⟨PySem.W.emptyDict,#[],_,e1,rfl,(fun e he=>absurd he (by simp)),fun _=>rfl⟩
 have I1:=I.laid (a:=s.heap.objs.size) (o:=.own (s.heap.objs.size+1)) (h':=s.heap.push PySem.W.emptyDict) (t':=s.toks) (fun b u q=>Heap.get?_push_of_some _ q) (Nat.le_refl _) ⟨_,e1⟩
 refine I1.laid (a:=s.heap.objs.size+1) (o:=.ins C s.heap.objs.size []) (t':=s.toks) (fun b u q=>Heap.get?_push_of_some _ q) (Nat.le_of_eq (Heap.size_push _ _)) ?_
 have ne:s.heap.objs.size≠s.heap.objs.size+1:=Nat.ne_of_lt (Nat.lt_succ_self _)
 refine⟨by rw[aqp ne,aqm],Nat.zero_le _,ne,e2,fun _=>none,(Heap.Ns1.of_empty e3).at fun o q=>Heap.get?_push_of_some _ q,fun _=>True.intro,fun y hy=>absurd rfl hy⟩
def uqy {prog:Program}{w:World}{env:Env}{e:Expr}{f:Str}{pos:Pos}{s:Shared}{Q:Value->Shared->Prop}(hb:attributeBase e f env (eval e env)=eval e env)
  (h:wpAny (model prog w) A (eval e env) (fun o s₁=>wpAny (model prog w) A (getAttr o f true) Q E s₁) E s):wpAny (model prog w) A (eval (.Attribute e f pos) env) Q E s:=
 Attribute_any_ h (by rw[arm_eval_Attribute,hb])
end
def tFld (K:W.Frag)(ta:TE)(f:Str):TE:=fun σ H Q=>ta σ H fun x H1=>∃a C dx fs v,x=.ref a∧H1 a=some (.ins C dx fs)∧Cls K C∧NoAttr K C f∧fs.lookup f=some v∧Q v H1
def sFld (K:W.Frag)(ta tv:TE)(f:Str):TS:=fun D σ H=>tv σ H fun y H1=>ta σ H1 fun x H2=>∃a C dx fs,x=.ref a∧H2 a=some (.ins C dx fs)∧Cls K C∧NoAttr K C f∧fs.length < 1000 ∧
 D.nx σ (upd H2 a (.ins C dx (putF f y fs)))
section
variable {X:Cx}{o e value:Expr}{f:Str}{pos pos' tpos:Pos}{ta tv:TE}
def dqG (he:PE X e ta)(hb:attributeBase e f X.env (eval e X.env)=eval e X.env):PE X (.Attribute e f pos) (tFld X.K ta f):=by
 intro pins s σ H Q I h
 refine uqy hb (thn (he pins s σ H _ I h) fun u s1 W'=>?_)
 obtain⟨x,H1,I1,rx,a,C,dx,fs,v,ex,ea,c,n,l,q⟩:=W'
 subst ex
 obtain rfl:u=Value.ref a:=rx
 exact rqW I1 ea c n l fun u' s2 I2 ru=>⟨v,H1,I2,ru,q⟩
def rqk (ha:PE X o ta)(hv:PE X value tv)(hs:swapsWith value (some (.Attribute o f pos')) pos.line X.env=pure false):PS X (.Assign [.Attribute o f pos'] value pos) (sFld X.K ta tv f):=by
 intro ac s σ H D I h
 refine plainObj_wpAny_Assign_Attribute (thn (hv ac s σ H _ I h) fun u s1 ⟨y,H1,I1,ry,q⟩=>thn (ha ac s1 σ H1 _ I1 q) fun ov s2 W'=>?_) hs
 obtain⟨x,H2,I2,rx,a,C,dx,fs,ex,ea,c,n,l,q2⟩:=W'
 subst ex
 obtain rfl:ov=Value.ref a:=rx
 exact sqo I2 ea c n l ry fun s3 I3=>⟨σ,_,I3,q2⟩
theorem wqP {pl:Sem Bool}{m:Str}{apos:Pos}{args:List Expr}{pins:List (Addr×Obj)}{s:Shared}{σ:St}{H:Hp}{Q:Value->Shared->Prop}{te:TE}(he:PE X e te)(I:Inv X pins σ H s)
  (h:te σ H fun x H1=>∃a C dx fs g,x=.ref a∧H1 a=some (.ins C dx fs)∧Cls X.K C∧Meth X.K C m g∧fs.lookup m=none ∧
   ∀s1,Inv X pins σ H1 s1->wpAny (model X.prog X.w) X.A (callWith pos (.ref g) [.ref a] (backTo pos (starEach args X.env)) (backToKw pos (keywordEach [] X.env))) Q X.xe s1)
  (ht:eval (.Call (.Attribute e m apos) args [] pos) X.env=(do
   let ov <- eval e X.env
   standAt apos.atName
   let (f,first) <- holding [ov] (getMethod ov m pl)
   callWith pos f first (backTo pos (starEach args X.env)) (backToKw pos (keywordEach [] X.env)))) :
  wpAny (model X.prog X.w) X.A (eval (.Call (.Attribute e m apos) args [] pos) X.env) Q X.xe s:=by
 refine PySem.W.methodCall_KW (pl:=pl) (thn (he pins s σ H _ I h) fun u s1 W'=>?_) ht
 obtain⟨x,H1,I1,rx,a,C,dx,fs,g,ex,ea,c,k,l,q⟩:=W'
 subst ex
 obtain rfl:u=Value.ref a:=rx
 exact jq1 I1 ea c k l (q s1 I1)
end
section
variable {X:Cx}{pins:List (Addr×Obj)}{σ:St}{H:Hp}{s:Shared}{A:Around}{E:Value->Shared->Prop}{Q:Value->Shared->Prop}{c:Value}{b:Bool}
inductive TyOf (K:W.Frag)(H:Hp):V->Value->Prop where
 |non:TyOf K H .non (.type "NoneType")
 |bl (x:Bool):TyOf K H (.bl x) (.type "bool")
 |int (i:Int):TyOf K H (.int i) (.type "int")
 |str (x:Str):TyOf K H (.str x) (.type "str")
 |flt (x:UInt64):TyOf K H (.flt x) (.type "float")
 |lst {a:Addr}{xs:List V} (e:H a=some (.lst xs)):TyOf K H (.ref a) (.type "list")
 |frz {a:Addr}{o:Obj}{xs:List V} (e:H a=some (.frz o (.lst xs))):TyOf K H (.ref a) (.type "list")
 |tup {a:Addr}{xs:List V} (e:H a=some (.tup xs)):TyOf K H (.ref a) (.type "tuple")
 |dK {a:Addr}{kvs:List (Key×V)} (e:H a=some (.dK kvs)):TyOf K H (.ref a) (.type "dict")
 |dT {a:Addr}{kvs:List (List Key×V)} (e:H a=some (.dT kvs)):TyOf K H (.ref a) (.type "dict")
 |ins {a C dx:Addr}{fs:List (Str×V)} (e:H a=some (.ins C dx fs)) (cl:Cls K C) (ha:PySem.W.findIn K (.ref C) "__class__"=some (some (.builtin "object.__class__")))
   (hn:PySem.W.specialIn K (.builtin "object.__class__") "__get__"=some (some (.builtin "getset_descriptor.__get__"))) (htk:PySem.W.takesIn K (.builtin "object.__class__")=some true)
   (hm:PySem.W.mroIn K C (.type "object")=some true):TyOf K H (.ref a) (.ref C)
theorem tqV {x:V}{u t:Value}(I:Inv X pins σ H s)(rx:RelV x u)(ty:TyOf X.K H x t)(e:PySem.W.kitOne X.K t c=some b)(h:∀tk,Q (.bool b) {s with toks:=tk}) :
  wpAny (model X.prog X.w) A (call (.builtin "isinstance") [u,c]) Q E s:=by
 cases ty with
 |non=>cases (show u=Value.none from rx);exact PySem.W.kia_one PySem.W.kitx_none I.kIn True.intro e (fun z=>nomatch z) h
 |bl y=>cases (show u=Value.bool y from rx);exact PySem.W.kia_one PySem.W.kitx_bool I.kIn True.intro e (fun z=>nomatch z) h
 |int i=>obtain⟨t,q⟩:=(show ∃t,u=Value.int i t from rx);cases q;exact PySem.W.kia_one PySem.W.kitx_int I.kIn True.intro e (fun z=>nomatch z) h
 |str y=>obtain⟨t,q⟩:=(show ∃t,u=Value.str y t from rx);cases q;exact PySem.W.kia_one PySem.W.kitx_str I.kIn True.intro e (fun z=>nomatch z) h
 |flt y=>obtain⟨t,q⟩:=(show ∃t,u=Value.float y t from rx);cases q;exact PySem.W.kia_one PySem.W.kitx_float I.kIn True.intro e (fun z=>nomatch z) h
 |@lst a xs ea=>
  cases (show u=Value.ref a from rx)
  obtain⟨_,_,n,_,h1⟩:=(show ObjOk X.prog X.w H s.heap a (.lst xs) from I.hok a _ ea)
  exact PySem.W.kia_one PySem.W.kitx_list I.kIn ⟨_,h1,rfl⟩ e (fun z=>nomatch z) h
 |@frz a ob xs ea=>
  cases (show u=Value.ref a from rx)
  obtain⟨_,_,_,n,_,h1⟩:=(show ObjOk X.prog X.w H s.heap a (.frz ob (.lst xs)) from I.hok a _ ea)
  exact PySem.W.kia_one PySem.W.kitx_list I.kIn ⟨_,h1,rfl⟩ e (fun z=>nomatch z) h
 |@tup a xs ea=>
  cases (show u=Value.ref a from rx)
  obtain⟨_,_,_,p⟩:=(show ObjOk X.prog X.w H s.heap a (.tup xs) from I.hok a _ ea)
  obtain⟨o,h1,h2,_⟩:=p
  exact PySem.W.kia_one PySem.W.kitx_tuple I.kIn ⟨o,h1,h2⟩ e (fun z=>nomatch z) h
 |@dK a kvs ea=>
  cases (show u=Value.ref a from rx)
  obtain⟨_,_,vs,_,p⟩:=(show ObjOk X.prog X.w H s.heap a (.dK kvs) from I.hok a _ ea)
  obtain⟨o,es,ep,h1,h2,_⟩:=p
  exact PySem.W.kia_one PySem.W.kitx_dict I.kIn ⟨o,h1,h2.1⟩ e (fun z=>nomatch z) h
 |@dT a kvs ea=>
  cases (show u=Value.ref a from rx)
  obtain⟨_,_,xs,_,o,es,ep,h1,h2,_⟩:=(show ObjOk X.prog X.w H s.heap a (.dT kvs) from I.hok a _ ea)
  exact PySem.W.kia_one PySem.W.kitx_dict I.kIn ⟨o,h1,h2.1⟩ e (fun z=>nomatch z) h
 |@ins a C dx fs ea cl ha hn htk hm=>
  cases (show u=Value.ref a from rx)
  obtain⟨mA,O,_⟩:=nqn I.hok ea
  obtain⟨od,J,_⟩:=O.look
  exact PySem.W.kia_one (PySem.W.kitx_own (cl.get _) cl.hd ha hn htk hm) I.kIn J e (fun z=>nomatch z) h
end
structure Room (k:Nat)(A:Around):Prop where
 hd:A.handled=none
 dp:A.depth+3 * k+5 < recursionLimit
 un:A.units+16 * k+200 < cLine
def Room.mono {j k:Nat}{A:Around}(r:Room k A)(h:j≤k):Room j A:=⟨r.hd,by have:=r.dp;lia,by have:=r.un;lia⟩
def Room.deeper {k:Nat}{A:Around}(r:Room (k+1) A)(env:Env):Room k (A.deeper env):=
 ⟨r.hd,by have:=r.dp;show A.depth+1+3 * k+5 < _;lia,by have:=r.un;show A.units+3+16 * k+200 < _;lia⟩
def sqp {A:Around}{C:Addr}{us:List Value}{kw:List (Str×Value)}:(A.under (.builtin "type.__call__" ⟨.ref C::us,kw⟩)).depth=A.depth+1:=by
 first|rfl|simp[Around.under,Code.weight,Code.isCreation,Code.isGuard,Code.isCaller,Code.frames,Code.isFrame,guardIds]
def sqi {A:Around}{C:Addr}{us:List Value}{kw:List (Str×Value)}:(A.under (.builtin "type.__call__" ⟨.ref C::us,kw⟩)).units=A.units+1:=by
 first|rfl|simp[Around.under,Code.cUnits,Code.frames,Code.isFrame]
def Room.make {k:Nat}{A:Around}(r:Room (k+1) A)(C:Addr)(us:List Value)(kw:List (Str×Value)):Room k (A.under (.builtin "type.__call__" ⟨.ref C::us,kw⟩)):=
 ⟨r.hd,by have:=r.dp;rw[sqp];lia,by have:=r.un;rw[sqi];lia⟩
def Room.depth {k:Nat}{A:Around}(r:Room k A):A.depth < recursionLimit:=by have:=r.dp;lia
def Room.units {k:Nat}{A:Around}(r:Room k A):A.units+64 < cLine:=by have:=r.un;lia
def tNil:TA:=fun _ H Q=>Q [] H
def tCons (ta:TE)(tr:TA):TA:=fun σ H Q=>ta σ H fun x H1=>tr σ H1 fun xs H2=>Q (x::xs) H2
section
variable {X:Cx}{e:Expr}{es:List Expr}{te:TE}{t:TA}{pos:Pos}
def aqb:PA X [] tNil:=fun _ _ _ _ H Q I h=>Calls.spliced_nil ⟨[],H,I,.nil,h⟩
def aqa (ha:PE X e te)(hr:PA X es t)(hs:starEach (e::es) X.env=(false,eval e X.env)::starEach es X.env:=by rfl):PA X (e::es) (tCons te t):=by
 intro ad ac s σ H Q I h
 rw[hs]
 show wpAny _ _ (spliced ((false,eval e X.env)::backTo ad (starEach es X.env))) _ _ s
 refine Calls.spliced_cons (thn (ha ac s σ H _ I h) fun u s1 W'=>?_)
 obtain⟨x,H1,I1,r1,q1⟩:=W'
 exact thn (hr ad ac s1 σ H1 _ I1 q1) fun us s2 ⟨xs,H2,I2,r2,q2⟩=>⟨x::xs,H2,I2,.cons r1 r2,q2⟩
def tTup (t:TA):TE:=fun σ H Q=>t σ H fun xs H1=>xs.length≤sizeLine∧∀p,H1 p=none->Q (.ref p) (upd H1 p (.tup xs))
def tLst (t:TA):TE:=fun σ H Q=>t σ H fun xs H1=>xs.length≤sizeLine∧∀p,H1 p=none->Q (.ref p) (upd H1 p (.lst xs))
def zqA (h:PA X es t):PE X (.List es pos) (tLst t):=by
 intro ac s σ H Q I hq
 refine wpAny_List_spliced (thn (h pos ac s σ H _ I hq) fun us s1 ⟨xs,H1,I1,r,z,q⟩=>⟨by rw[<- r.length];exact z,?_⟩)
 have hf:H1 s1.heap.objs.size=none:=I1.hok.fresh (Nat.le_refl _)
 refine⟨.ref s1.heap.objs.size,upd H1 s1.heap.objs.size (.lst xs),I1.laid (t':=s1.toks) (fun b u e=>Heap.get?_push_of_some _ e) (Nat.le_refl _) ?_,rfl,q _ hf⟩
 exact⟨z,us,0,r,Heap.get?_push_size _ rfl⟩
end
abbrev Sp:=List V->Hp->VK->XK->Prop
abbrev CXT:=List Env->Hp->Shared->XK->Value->Shared->Prop
structure Env0 (P:Program)(w:World)(K:W.Frag)(mg:Str->Option Value)(base:Heap)(A:Around)(outer:List Env)(s:Shared)(H:Hp):Prop where
 frames:A.frames=some outer
 mod:Mod K mg base
 bs:∀b o,base.get? b=some o->s.heap.get? b=some o∧H b=none
 bsz:base.objs.size≤s.heap.objs.size
 funs:s.heap.FunFrames base outer
 frf:∀b∈frs outer,H b=none
 hok:HOk P w H s.heap
 bare:AllBare s.gens
def CE (outer:List Env)(P:Program)(w:World)(H:Hp)(s:Shared)(Q:VK)(u:Value)(s':Shared):Prop:=
 ∃v H',s'.os=s.os∧AllBare s'.gens∧Un (frs outer) [] H H' s.heap s'.heap∧HOk P w H' s'.heap∧RelV v u∧Q v H'
def CR (CX:CXT)(outer:List Env)(P:Program)(w:World)(H:Hp)(s:Shared)(Q:VK)(E:XK)(r:Result)(s':Shared):Prop:=
 match r with
 |.ok (.ret u)=>CE outer P w H s Q u s'
 |.ok _=>False
 |.error e=>CX outer H s E e s'
structure FnOk (P:Program)(w:World)(K:W.Frag)(mg:Str->Option Value)(base:Heap)(CX:CXT)(k:Nat)(f:Addr)(fd:FuncData)(ps:List Str)(sp:Sp):Prop where
 len:∀vs H Q E,sp vs H Q E->vs.length=ps.length
 run:∀(A:Around) (outer:List Env) (s:Shared) (H:Hp) (args:Args) (us:List Value) (vs:List V) (Q:VK) (E:XK),Room k A->Env0 P w K mg base A outer s H->BindsTo s fd args (ps.zip us)->Vals vs us->sp vs H Q E ->
  codeAny (model P w) A (.call (.ref f) args) (CR CX outer P w H s Q E) s
def Env0.make {P:Program}{w:World}{K:W.Frag}{mg:Str->Option Value}{base:Heap}{A:Around}{outer:List Env}{s:Shared}{H:Hp}(e:Env0 P w K mg base A outer s H)(C:Addr)(us:List Value)(kw:List (Str×Value)) :
  Env0 P w K mg base (A.under (.builtin "type.__call__" ⟨.ref C::us,kw⟩)) outer s H:=⟨by first|exact e.frames|(simpa [Around.under,Code.envs,Code.isFrame,pushEnvs] using e.frames),e.mod,e.bs,e.bsz,e.funs,e.frf,e.hok,e.bare⟩
section
variable {X:Cx}{pins:List (Addr×Obj)}{σ:St}{H:Hp}{s s':Shared}
def Inv.env0 (I:Inv X pins σ H s):Env0 X.prog X.w X.K X.mg X.base X.A X.stack s H:=
 ⟨I.ok.frames,I.ok.mod,I.bs,Nat.le_trans I.ok.bsz I.sz,I.stack,I.stkFree,I.hok,I.bare⟩
def Inv.after {Q:VK}{u:Value}(I:Inv X pins σ H s)(h:CE X.stack X.prog X.w H s Q u s'):EP X pins σ Q u s':=by
 obtain⟨v,H',os,bare,un,hok,r,q⟩:=h
 obtain⟨hh,g,d,t,os'⟩:=s'
 obtain rfl:os'=s.os:=os
 exact⟨v,H',I.call (h':=hh) (g':=g) (d':=d) (t':=t) (ch:=[]) un hok bare (fun b z=>absurd z (by simp)),r,q⟩
end
def tCall (sp:Sp)(dvs:List V)(E:XK)(t:TA):TE:=fun σ H Q=>t σ H fun vs H1=>sp (vs++dvs) H1 Q E
def tMeth (C:Addr)(m:Str)(sp:Sp)(dvs:List V)(E:XK)(ta:TE)(t:TA):TE:=fun σ H Q=>ta σ H fun x H1=>∃a dx fs,x=.ref a∧H1 a=some (.ins C dx fs)∧fs.lookup m=none ∧
 t σ H1 fun vs H2=>sp (x::(vs++dvs)) H2 Q E
def tMake (C:Addr)(sp:Sp)(dvs:List V)(E:XK)(t:TA):TE:=fun σ H Q=>t σ H fun vs H1=>∀x dx,H1 x=none->H1 dx=none->dx≠x ->
 sp (.ref x::(vs++dvs)) (upd (upd H1 dx (.own x)) x (.ins C dx [])) (fun v H2=>v=.non∧Q (.ref x) H2) E
def Binds (K:W.Frag)(fd:FuncData)(ps:List Str)(ds:List Value):Prop:=
 ∀(s:Shared) (us:List Value),K.In s.heap->(us++ds).length=ps.length->BindsTo s fd ⟨us,[]⟩ (ps.zip (us++ds))
def Binds.all {K:W.Frag}{fd:FuncData}{ps:List Str}(h:∀us:List Value,us.length=ps.length->bindArgs fd ⟨us,[]⟩=pure (ps.zip us)):Binds K fd ps []:=fun s us _ hl=>by
 rw[append_nil] at hl ⊢
 exact .of_eq (h us hl)
def Passes (CX:CXT)(X:Cx)(E:XK):Prop:=∀(pins:List (Addr×Obj)) (σ:St) (H:Hp) (s:Shared) (e:Value) (s':Shared),Inv X pins σ H s->CX X.stack H s E e s'->X.xe e s'
section
variable {X:Cx}{CX:CXT}{k:Nat}{f C:Addr}{fd:FuncData}{ps:List Str}{sp:Sp}{dvs:List V}{ds:List Value}{E:XK}{x m:Str}{p pos apos:Pos}{e o:Expr}{es:List Expr}{ta:TE}{t:TA}
theorem qqK {pins:List (Addr×Obj)}{σ:St}{H:Hp}{s:Shared}{Q:VK}{us:List Value}{vs:List V}(F:FnOk X.prog X.w X.K X.mg X.base CX k f fd ps sp)(hr:Room k X.A)(hb:Binds X.K fd ps ds)(hd:Vals dvs ds)(hx:Passes CX X E)
  (I:Inv X pins σ H s) (r:Vals vs us) (h:sp (vs++dvs) H Q E):wpAny (model X.prog X.w) X.A (call (.ref f) us) (EP X pins σ Q) X.xe s:=by
 have r2:Vals (vs++dvs) (us++ds):=r.append hd
 have hl:(us++ds).length=ps.length:=by rw[<- r2.length];exact F.len _ _ _ _ h
 refine wpAny_call (codeAny_mono (F.run X.A X.stack s H ⟨us,[]⟩ (us++ds) (vs++dvs) Q E hr I.env0 (hb s us I.kIn hl) r2 h) fun r s' hq=>?_)
 cases r with
 |error e=>exact hx pins σ H s e s' I hq
 |ok fl=>
  cases fl with
  |ret u=>exact I.after hq
  |next=>exact False.elim hq
  |brk=>exact False.elim hq
  |cont=>exact False.elim hq
theorem aqf (F:FnOk X.prog X.w X.K X.mg X.base CX k f fd ps sp)(hr:Room k X.A)(hg:Gl X x)(hm:X.mg x=some (.ref f))(hk:PySem.W.keepIn X.K (.ref f)=true)(hb:Binds X.K fd ps ds)(hd:Vals dvs ds)(hx:Passes CX X E)
  (ha:PA X (e::es) t) (hdb:(x == ("__debug__" : Str))=false:=by decide) (he:starEach (e::es) X.env=(false,eval e X.env)::starEach es X.env:=by rfl) (hpl:(backTo pos (starEach es X.env)).any (·.1)=false:=by rfl) :
  PE X (.Call (.Name x p) (e::es) [] pos) (tCall sp dvs E t):=by
 intro pins s σ H Q I h
 refine wpAny_Call_Name_kw (eqg I hg hm ?_ hdb)
 refine PySem.W.callWith_K (h₀:=X.base) I.ok.mod.kin hk (thn (ha pos pins s σ H _ I h) fun us s1 ⟨vs,H1,I1,r,q⟩=>⟨I1.kIn,?_⟩) he hpl
 exact qqK F hr hb hd hx I1 r q
def vqX (F:FnOk X.prog X.w X.K X.mg X.base CX k f fd ps sp)(hr:Room k X.A)(hg:Gl X x)(hm:X.mg x=some (.ref f))(hk:PySem.W.keepIn X.K (.ref f)=true)(hb:Binds X.K fd ps ds)(hd:Vals dvs ds)(hx:Passes CX X E)
  (hdb:(x == ("__debug__" : Str))=false:=by decide):PE X (.Call (.Name x p) [] [] pos) (tCall sp dvs E tNil):=by
 intro pins s σ H Q I h
 refine wpAny_Call_Name_kw (eqg I hg hm ?_ hdb)
 exact PySem.W.callWith_K0 I.kIn hk (qqK (us:=[]) F hr hb hd hx I .nil h)
theorem cqz {pl:Sem Bool}(he:PE X o ta)(c:Cls X.K C)(hm:Meth X.K C m f)(F:FnOk X.prog X.w X.K X.mg X.base CX k f fd ps sp)(hr:Room k X.A)(hb:Binds X.K fd ps ds)(hd:Vals dvs ds)(hx:Passes CX X E)(ha:PA X (e::es) t)
  (hst:starEach (e::es) X.env=(false,eval e X.env)::starEach es X.env:=by rfl) (hpl:(backTo pos (starEach es X.env)).any (·.1)=false:=by rfl)
  (ht:eval (.Call (.Attribute o m apos) (e::es) [] pos) X.env=(do
   let ov <- eval o X.env
   standAt apos.atName
   let (f,first) <- holding [ov] (getMethod ov m pl)
   callWith pos f first (backTo pos (starEach (e::es) X.env)) (backToKw pos (keywordEach [] X.env))):=by rfl) :
  PE X (.Call (.Attribute o m apos) (e::es) [] pos) (tMeth C m sp dvs E ta t):=by
 intro ac s σ H Q I h
 refine PySem.W.methodCall_KW (pl:=pl) (thn (he ac s σ H _ I h) fun u s1 W'=>?_) ht
 obtain⟨x,H1,I1,rx,a,dx,fs,ex,ea,l,q⟩:=W'
 subst ex
 obtain rfl:u=Value.ref a:=rx
 refine jq1 I1 ea c hm l ?_
 refine PySem.W.callWith_K (first:=[.ref a]) (h₀:=X.base) I.ok.mod.kin hm.kp (thn (ha pos ac s1 σ H1 _ I1 q) fun us s2 ⟨vs,H2,I2,r,q2⟩=>⟨I2.kIn,?_⟩) hst hpl
 exact qqK (us:=.ref a::us) (vs:=.ref a::vs) F hr hb hd hx I2 (.cons rfl r) q2
theorem fq6 {pl:Sem Bool}(he:PE X o ta)(c:Cls X.K C)(hm:Meth X.K C m f)(F:FnOk X.prog X.w X.K X.mg X.base CX k f fd ps sp)(hr:Room k X.A)(hb:Binds X.K fd ps ds)(hd:Vals dvs ds)(hx:Passes CX X E)
  (ht:eval (.Call (.Attribute o m apos) [] [] pos) X.env=(do
   let ov <- eval o X.env
   standAt apos.atName
   let (f,first) <- holding [ov] (getMethod ov m pl)
   callWith pos f first (backTo pos (starEach [] X.env)) (backToKw pos (keywordEach [] X.env))):=by rfl) :
  PE X (.Call (.Attribute o m apos) [] [] pos) (tMeth C m sp dvs E ta tNil):=by
 intro ac s σ H Q I h
 refine PySem.W.methodCall_KW (pl:=pl) (thn (he ac s σ H _ I h) fun u s1 W'=>?_) ht
 obtain⟨x,H1,I1,rx,a,dx,fs,ex,ea,l,q⟩:=W'
 subst ex
 obtain rfl:u=Value.ref a:=rx
 refine jq1 I1 ea c hm l ?_
 exact PySem.W.callWith_K0 (first:=[.ref a]) I1.kIn hm.kp (qqK (us:=[.ref a]) (vs:=[.ref a]) F hr hb hd hx I1 (.cons rfl .nil) q)
structure Mk (K:W.Frag)(C f:Addr):Prop where
 makes:PySem.W.makesIn K C=true
 init:PySem.W.findIn K (.ref C) "__init__"=some (some (.ref f))
 fn:PySem.W.isFn K (.ref f)=true
 kp:PySem.W.keepIn K (.ref C)=true
theorem uqM {pins:List (Addr×Obj)}{σ:St}{H:Hp}{s:Shared}{Q:VK}{us:List Value}{vs:List V}(M:Mk X.K C f)(F:FnOk X.prog X.w X.K X.mg X.base CX k f fd ps sp)(hr:Room (k+1) X.A)(hb:Binds X.K fd ps ds)(hd:Vals dvs ds)
  (hx:Passes CX X E) (I:Inv X pins σ H s) (r:Vals vs us)
  (h:∀x dx,H x=none->H dx=none->dx≠x->sp (.ref x::(vs++dvs)) (upd (upd H dx (.own x)) x (.ins C dx [])) (fun v H2=>v=.non∧Q (.ref x) H2) E) :
  wpAny (model X.prog X.w) X.A (call (.ref C) us) (EP X pins σ Q) X.xe s:=by
 have hq:=h (s.heap.objs.size+1) s.heap.objs.size (I.hok.fresh (Nat.le_succ _)) (I.hok.fresh (Nat.le_refl _)) (Nat.ne_of_lt (Nat.lt_succ_self _))
 have I2:=Inv.made (C:=C) I
 have r2:Vals (V.ref (s.heap.objs.size+1)::(vs++dvs)) (Value.ref (s.heap.objs.size+1)::(us++ds)):=.cons rfl (r.append hd)
 have hl:(Value.ref (s.heap.objs.size+1)::us++ds).length=ps.length:=by
  have e:=r2.length
  rw[F.len _ _ _ _ hq] at e
  exact e.symm
 refine wpAny_call (vqj (f:=f) I.kIn M.makes M.init (beq_iff_eq.mp M.fn) (codeAny_mono (F.run _ X.stack _ _ ⟨Value.ref (s.heap.objs.size+1)::us,[]⟩ (Value.ref (s.heap.objs.size+1)::(us++ds)) _ _ E (hr.make C us [])
  (I2.env0.make C us []) (hb _ (Value.ref (s.heap.objs.size+1)::us) I2.kIn hl) r2 hq) fun r s' ac=>?_))
 cases r with
 |error e=>exact hx pins σ _ _ e s' I2 ac
 |ok fl=>
  cases fl with
  |ret u=>
   obtain⟨v,H',I3,rv,ev,q3⟩:=I2.after ac
   subst ev
   exact⟨rv,⟨V.ref (s.heap.objs.size+1),H',I3,rfl,q3⟩⟩
  |next=>exact False.elim ac
  |brk=>exact False.elim ac
  |cont=>exact False.elim ac
theorem wq2 (M:Mk X.K C f)(F:FnOk X.prog X.w X.K X.mg X.base CX k f fd ps sp)(hr:Room (k+1) X.A)(hg:Gl X x)(hm:X.mg x=some (.ref C))(hb:Binds X.K fd ps ds)(hd:Vals dvs ds)(hx:Passes CX X E)
  (ha:PA X (e::es) t) (hdb:(x == ("__debug__" : Str))=false:=by decide) (he:starEach (e::es) X.env=(false,eval e X.env)::starEach es X.env:=by rfl) (hpl:(backTo pos (starEach es X.env)).any (·.1)=false:=by rfl) :
  PE X (.Call (.Name x p) (e::es) [] pos) (tMake C sp dvs E t):=by
 intro pins s σ H Q I h
 refine wpAny_Call_Name_kw (eqg I hg hm ?_ hdb)
 refine PySem.W.callWith_K (h₀:=X.base) I.ok.mod.kin M.kp (thn (ha pos pins s σ H _ I h) fun us s1 ⟨vs,H1,I1,r,q⟩=>⟨I1.kIn,?_⟩) he hpl
 exact uqM M F hr hb hd hx I1 r q
end
section
variable {X:Cx}{CX:CXT}{k:Nat}{f C:Addr}{fd:FuncData}{ps ks:List Str}{sp:Sp}{E:XK}{x m:Str}{p pos apos kpos:Pos}{e o:Expr}{es:List Expr}{kws:List Keyword}{te ta:TE}{t tk:TA}{nm:Option Str}
structure KBinds (K:W.Frag)(fd:FuncData)(ps ks:List Str)(g:List Value->List Value->List Value)(gV:List V->List V->List V):Prop where
 to:∀(s:Shared) (us ws:List Value),K.In s.heap->(g us ws).length=ps.length->BindsTo s fd ⟨us,ks.zip ws⟩ (ps.zip (g us ws))
 rel:∀{vs:List V}{us:List Value}{zs:List V}{ws:List Value},Vals vs us->Vals zs ws->Vals (gV vs zs) (g us ws)
variable {g:List Value->List Value->List Value}{gV:List V->List V->List V}
end
structure FnScope (N P:List Str)(sc:Scope):Prop where
 kind:sc.kind=.function
 co:sc.isCoroutine=false
 gen:sc.isGenerator=false
 nd:N.Nodup
 pre:N.take P.length=P
 par:∀x∈P,sc.names.lookup x=some .local∨sc.names.lookup x=some .cell
 nofree:∀y∈sc.names,y.2≠.free
theorem oqL {kindOf:Str->Option NameKind}{x:Str}:∀{binds:List (Str×Value)}{m:Str->Option Value},(∀v,(x,v)∉binds)->bindL kindOf binds m x=m x
 |[],_,_=>rfl
 | (n,v)::r,m,h=>by
  unfold bindL
  rw[oqL fun w hw=>h w (mem_cons_of_mem _ hw)]
  split
  ·have:x≠n:=by rintro rfl;exact h v mem_cons_self
   simp[this]
  ·rfl
theorem oqD {kindOf:Str->Option NameKind}{x:Str}:∀{binds:List (Str×Value)}{m:Str->Option Value},(∀v,(x,v)∉binds)->bindC kindOf binds m x=m x
 |[],_,_=>rfl
 | (n,v)::r,m,h=>by
  unfold bindC
  rw[oqD fun w hw=>h w (mem_cons_of_mem _ hw)]
  split
  ·rfl
  ·have:x≠n:=by rintro rfl;exact h v mem_cons_self
   simp[this]
theorem oqS {kindOf:Str->Option NameKind}{x:Str}{v:Value}:∀{P:List Str}{vs:List Value}{i:Nat}{m:Str->Option Value},P.Nodup->P[i]?=some x->vs[i]?=some v->kindOf x=some .local ->
  bindL kindOf (P.zip vs) m x=some v
 |[],_,_,_,_,h,_,_=>by simp at h
 |_::_,[],_,_,_,_,h,_=>by simp at h
 |p::P,w::vs,0,m,nd,h1,h2,hk=>by
  simp at h1 h2;subst h1;subst h2
  show bindL kindOf ((p,w)::P.zip vs) m p=_
  unfold bindL
  rw[oqL fun v hv=>(nodup_cons.mp nd).1 (of_mem_zip hv).1,if_pos hk]
  simp
 |p::P,w::vs,i+1,m,nd,h1,h2,hk=>by
  show bindL kindOf ((p,w)::P.zip vs) m x=_
  unfold bindL
  exact oqS (i:=i) (nodup_cons.mp nd).2 (by simpa using h1) (by simpa using h2) hk
theorem oqM {kindOf:Str->Option NameKind}{x:Str}{v:Value}:∀{P:List Str}{vs:List Value}{i:Nat}{m:Str->Option Value},P.Nodup->P[i]?=some x->vs[i]?=some v->kindOf x≠some .local ->
  bindC kindOf (P.zip vs) m x=some v
 |[],_,_,_,_,h,_,_=>by simp at h
 |_::_,[],_,_,_,_,h,_=>by simp at h
 |p::P,w::vs,0,m,nd,h1,h2,hk=>by
  simp at h1 h2;subst h1;subst h2
  show bindC kindOf ((p,w)::P.zip vs) m p=_
  unfold bindC
  rw[oqD fun v hv=>(nodup_cons.mp nd).1 (of_mem_zip hv).1,if_neg hk]
  simp
 |p::P,w::vs,i+1,m,nd,h1,h2,hk=>by
  show bindC kindOf ((p,w)::P.zip vs) m x=_
  unfold bindC
  exact oqM (i:=i) (nodup_cons.mp nd).2 (by simpa using h1) (by simpa using h2) hk
def start (N:List Str)(vs:List V):St:=vs.map some++List.replicate (N.length - vs.length) none
def cxOf (CX:CXT)(P:Program)(w:World)(K:W.Frag)(mg:Str->Option Value)(base:Heap)(N:List Str)(qual:Str)(scope:Scope)(f:Addr)(cd:Value)(A:Around)(outer:List Env)(s:Shared)(H:Hp)(E:XK):Cx where
 prog:=P
 w:=w
 K:=K
 mg:=mg
 base:=base
 A:=A.deeper (envOfC qual scope s.heap.objs.size f cd)
 N:=N
 s₀:=s
 H₀:=H
 env:=envOfC qual scope s.heap.objs.size f cd
 outer:=outer
 stack:=envOfC qual scope s.heap.objs.size f cd::outer
 ex:=[]
 calm:=true
 fn:=fun _=>true
 pn:=[]
 xe:=fun e s'=>wpAny (model P w) (A.deeper (envOfC qual scope s.heap.objs.size f cd)) (leaving (envOfC qual scope s.heap.objs.size f cd) e) (fun _ s''=>CX outer H s E e s'') (fun e' s''=>CX outer H s E e' s'') s'
def rqh {sc:Scope}{n:Nat}{x:Str}(h:sc.names.lookup x=some .cell):∃c,(cellsFrom n sc.names []).lookup x=some c:=by
 have q:=PySem.W.cellsFrom_some sc.names n [] (.inl h)
 exact Option.isSome_iff_exists.mp q
theorem tqf {CX:CXT}{P:Program}{w:World}{K:W.Frag}{mg:Str->Option Value}{base:Heap}{N ps:List Str}{qual:Str}{scope:Scope}{f:Addr}{cd:Value}{A:Around}{outer:List Env}{s s1:Shared}{H:Hp}{E:XK}{us:List Value}{vs:List V}
  (S:FnScope N ps scope) (hd:A.handled=none) (e0:Env0 P w K mg base A outer s H) (hl:vs.length=ps.length) (r:Vals vs us)
  (x:InCallC s s.heap.objs.size (bindL (envOfC qual scope s.heap.objs.size f cd).kindOf (ps.zip us) fun _=>none) (cellsFrom (s.heap.objs.size+1) scope.names []) (bindC (envOfC qual scope s.heap.objs.size f cd).kindOf (ps.zip us) fun _=>none) s1) :
  Inv (cxOf CX P w K mg base N qual scope f cd A outer s H E) [] (start N vs) H s1:=by
 have ae:ps.length≤N.length:=by have:=congrArg List.length S.pre;rw[length_take] at this;lia
 obtain⟨h1,tk,rfl,hk⟩:=x.done
 have ac:∀b:Addr,b∉(cxOf CX P w K mg base N qual scope f cd A outer s H E).ex:=fun b z=>absurd (show b∈([]:List Addr) from z) (by simp)
 refine⟨⟨e0.mod,S.kind,rfl,rfl,Nat.le_refl _,fun y z c h1 h2=>?_,fun y hy=>?_,fun y c _ h=>?_,fun _=>hd,Around.frames_deeper e0.frames,.inr ⟨rfl,rfl⟩,fun b z=>absurd z (ac b),e0.bs,e0.bsz,fun b _ _=>ac b,fun b z=>absurd z (ac b),e0.funs,e0.frf⟩,
  rfl,e0.bare,Un.kept hk,⟨_,x.toInCall.ns,fun i y v h1 h2 h3=>?_⟩,fun y c h=>⟨_,x.cell y c h⟩,e0.hok.fresh (Nat.le_refl _),fun y c h=>?_,fun p hp=>absurd (show p∈([]:List (Addr×Obj)) from hp) (by simp),e0.hok.kept hk,?_⟩
 ·exact name_of_addr x.apart (PySem.mem_of_lookup h1) (PySem.mem_of_lookup h2)
 ·have hy:scope.names.lookup y=some .cell∨scope.names.lookup y=some .free:=hy
  rcases hy with hy|hy
  ·exact rqh hy
  ·exact absurd rfl (S.nofree _ (PySem.mem_of_lookup hy))
 ·exact Nat.le_of_lt (x.above y c (PySem.mem_of_lookup h))
 ·have hi:i < vs.length:=by
   unfold start at h2
   by_cases hi:i < vs.length
   ·exact hi
   ·rw[List.getElem?_append_right (by simpa using hi)] at h2
    rw[List.getElem?_replicate] at h2
    split at h2 <;> cases h2
  have ha:vs[i]?=some v:=by
   unfold start at h2
   rw[List.getElem?_append_left (by simpa using hi),List.getElem?_map] at h2
   cases e:vs[i]? with
   |none=>rw[e] at h2;cases h2
   |some a=>rw[e] at h2;cases h2;rfl
  obtain⟨u,hu,rv⟩:=r.get ha
  have hp:ps[i]?=some y:=by
   rw[<- S.pre,List.getElem?_take_of_lt (by lia)];exact h1
  have ad:ps.Nodup:=by rw[<- S.pre];exact S.nd.sublist (List.take_sublist _ _)
  refine⟨u,rv,?_⟩
  rcases S.par y (mem_of_getElem? hp) with k|k
  ·exact .inl ⟨k,oqS ad hp hu k⟩
  ·obtain⟨c,e⟩:=rqh (n:=s.heap.objs.size+1) k
   refine .inr ⟨.inl k,c,e,?_⟩
   have q:=x.cell y c e
   rw[oqM ad hp hu (by show scope.names.lookup y≠_;rw[k];decide)] at q
   exact q
 ·exact e0.hok.fresh (Nat.le_of_lt (x.above y c (PySem.mem_of_lookup h)))
 ·unfold start
  show _=N.length
  rw[length_append,length_map,length_replicate]
  lia
theorem uq2 {CX:CXT}{P:Program}{w:World}{K:W.Frag}{mg:Str->Option Value}{base:Heap}{k:Nat}{f:Addr}{name qual:Str}{params:Arguments}{body:List Stmt}{scope:Scope}{dV kV doc pm cdv ct oc:Value}{an od:Option Addr}
  {osl:Array (Option Value)}{N ps:List Str}{sp:Sp} (lk:K.lookup f=some ⟨oc,od,.func (PySem.W.fnOf name qual params body scope dV kV doc pm an cdv ct),osl⟩) (hcd:PySem.W.codeIn K cdv qual=true) (S:FnScope N ps scope)
  (len:∀vs H Q E,sp vs H Q E->vs.length=ps.length)
  (hbody:∀(A:Around) (outer:List Env) (s:Shared) (H:Hp) (vs:List V) (Q:VK) (E:XK),Room k (A.deeper (envOfC qual scope s.heap.objs.size f cdv))->sp vs H Q E ->
   ∃t,PSs (cxOf CX P w K mg base N qual scope f cdv A outer s H E) body t∧t {nx:=fun _ H'=>Q .non H',rt:=Q} (start N vs) H) :
  FnOk P w K mg base CX (k+1) f (PySem.W.fnOf name qual params body scope dV kV doc pm an cdv ct) ps sp:=by
 refine⟨len,fun A outer s H ag us vs Q E hr e0 hb r ad=>?_⟩
 have hl:=len _ _ _ _ ad
 have KX:K.In s.heap:=e0.mod.kin.keeps fun b o e=>(e0.bs b o e).1
 have af:s.heap.NoLimit:=e0.mod.nolimit.keeps fun b o e=>(e0.bs b o e).1
 have ac:∀y∈ps.zip us,scope.names.lookup y.1=some .local∨(scope.names.lookup y.1=some .cell∧((cellsFrom (s.heap.objs.size+1) scope.names []).lookup y.1).isSome=true):=fun⟨n,v⟩ hy=>by
  rcases S.par n (of_mem_zip hy).1 with q|q
  ·exact .inl q
  ·exact .inr ⟨q,PySem.W.cellsFrom_some _ _ _ (.inl q)⟩
 refine codeAny_call_function hr.depth (KX _ _ lk) rfl S.co S.gen rfl (PySem.W.codeRec_of KX hcd) (hb _ _ _ _ ?_)
 refine wpAny_newFunctionEnv_cells S.kind ac fun ah he s1 x=>?_
 subst he
 refine⟨af.keeps x.toInCall.keep,codeAny_func ?_⟩
 obtain⟨t,ht,hq⟩:=hbody A outer s H vs Q E (hr.deeper _) ad
 have I:Inv (cxOf CX P w K mg base N qual scope f cdv A outer s H E) [] (start N vs) H s1:=tqf S hr.hd e0 hl r x
 refine wpAny_mono (ht [] s1 (start N vs) H _ I hq) (fun fl s' hs=>?_) fun e s' hs=>hs
 have ae:∀{σ':St}{H':Hp}{v:V}{u:Value},Inv (cxOf CX P w K mg base N qual scope f cdv A outer s H E) [] σ' H' s'->RelV v u->Q v H'->CE outer P w H s Q u s':=
  fun {σ' H' v u} J rv q=>⟨v,H',J.os,J.bare,J.base,J.hok,rv,q⟩
 cases fl with
 |ret u=>
  obtain⟨v,σ',H',J,rv,q⟩:=hs
  exact ae J rv q
 |next=>
  obtain⟨σ',H',J,q⟩:=hs
  exact ae (v:=V.non) (u:=Value.none) J rfl q
 |brk=>
  obtain⟨_,_,_,q⟩:=hs
  exact False.elim q
 |cont=>
  obtain⟨_,_,_,q⟩:=hs
  exact False.elim q
section
variable {X:Cx}{x:Str}{p pos:Pos}{e:Expr}{es:List Expr}{t:TA}{id T:String}{r:List V->Hp->VK->Prop}
def tCB (r:List V->Hp->VK->Prop)(t:TA):TE:=fun σ H Q=>t σ H fun vs H1=>r vs H1 Q
theorem aqF (hc:CallR X (.builtin id) r)(hg:Gl X x)(hm:X.mg x=none)(hv:bootBuiltins x=some (.builtin id))(ha:PA X (e::es) t)(hn:x ≠ "__name__" := by decide)(hdb:(x == ("__debug__" : Str))=false:=by decide)
  (he:starEach (e::es) X.env=(false,eval e X.env)::starEach es X.env:=by rfl) (hpl:(backTo pos (starEach es X.env)).any (·.1)=false:=by rfl):PE X (.Call (.Name x p) (e::es) [] pos) (tCB r t):=by
 intro pins s σ H Q I h
 refine wpAny_Call_Name_kw (oqg I hg hm hv ?_ hn hdb)
 exact PyProof.Rows.callWith_builtin1 (thn (ha pos pins s σ H _ I h) fun us s1 ⟨vs,H1,I1,r1,q1⟩=>hc pins s1 σ H1 vs us Q I1 r1 q1) he hpl
theorem aq8 (hc:CallR X (.type T) r)(hg:Gl X x)(hm:X.mg x=none)(hv:bootBuiltins x=some (.type T))(ha:PA X (e::es) t)(hn:x ≠ "__name__" := by decide)(hdb:(x == ("__debug__" : Str))=false:=by decide)
  (he:starEach (e::es) X.env=(false,eval e X.env)::starEach es X.env:=by rfl) (hpl:(backTo pos (starEach es X.env)).any (·.1)=false:=by rfl):PE X (.Call (.Name x p) (e::es) [] pos) (tCB r t):=by
 intro pins s σ H Q I h
 refine wpAny_Call_Name_kw (oqg I hg hm hv ?_ hn hdb)
 exact PyProof.Rows.callWith_type1 (thn (ha pos pins s σ H _ I h) fun us s1 ⟨vs,H1,I1,r1,q1⟩=>hc pins s1 σ H1 vs us Q I1 r1 q1) he hpl
end
end L2
namespace HT
open PySem PyProof.Rows
def lexLt:List Int->List Int->Bool
 |[],[]=>false
 |[],_::_=>true
 |_::_,[]=>false
 |x::xs,y::ys=>if x=y then lexLt xs ys else decide (x < y)
section
open PySem.SeqAt
open PySem.AutoSeq1 (wpAny_loadPart')
open PySem.MeetsSeq PySem.MeetsSeq2 PySem.MeetsSeq3
end
section
variable {prog:Program}{w:World}{A:Around}{E:Value->Shared->Prop}{s:Shared}
theorem cat_tup {t b:Addr}{vs ws:List Value}{Q:Value->Shared->Prop}(ht:IsTup s.heap t vs.toArray)(hb:IsTup s.heap b ws.toArray)(hv:vs≠[])
  (h1:ws=[]->Q (.ref t) s) (h2:ws≠[]->Q (.ref s.heap.objs.size) {s with heap:=s.heap.push {cls:=.type "tuple",data:=.seq (vs++ws).toArray} })
  (hsz:vs.length+ws.length≤sizeLine):wpAny (model prog w) A (binaryOp .Add (.ref t) (.ref b)) Q E s:=by
 obtain⟨⟨cls,dd,data,sl⟩,ho,hc,n,hd⟩:=id ht
 obtain⟨⟨ai,ag,ah,ad⟩,ac,af,n2,ae⟩:=id hb
 simp only at hc hd af ae
 subst hc hd af ae
 have e:vs.toArray++ws.toArray=(vs++ws).toArray:=by simp
 by_cases hw:ws=[]
 ·exact concat_meets ⟨_,ho,rfl⟩ ⟨_,ac,rfl⟩ noFill_tuple_add seq_tuple_add PySem.F.slot_tuple_add PySem.F.entry_tuple_add (PySem.F.args_tuple_add_2 _ _)
   (tuple_addW1 t b vs.toArray ws.toArray n n2 dd ag sl ad (by simpa using hv) (by simp[hw])) ⟨ho,ac,h1 hw⟩
 ·refine concat_meets ⟨_,ho,rfl⟩ ⟨_,ac,rfl⟩ noFill_tuple_add seq_tuple_add PySem.F.slot_tuple_add PySem.F.entry_tuple_add (PySem.F.args_tuple_add_2 _ _)
   (tuple_addW2 t b vs.toArray ws.toArray n n2 dd ag sl ad (by simpa using hv) (by simpa using hw) (by rw[size_toArray,size_toArray];exact hsz)) ⟨ho,ac,?_⟩
  rw[e]
  exact h2 hw
def sIx (n d:Nat):Option Int->Nat
 |none=>d
 |some v=>if v < 0 then (v+(n:Int)).toNat else min v.toNat n
def sIx_none (n d:Nat):sIx n d none=d:=rfl
def sIx_nat (n d k:Nat):sIx n d (some (k:Int))=min k n:=by
 show (if (k:Int) < 0 then ((k:Int)+(n:Int)).toNat else min (k:Int).toNat n)=min k n
 rw[if_neg (by lia),Int.toNat_natCast]
theorem zqg (n d:Nat)(hd:d≤n)(o:Option Int):sIx n d o≤n:=by
 cases o with
 |none=>exact hd
 |some v=>
  show (if v < 0 then (v+(n:Int)).toNat else min v.toNat n)≤n
  by_cases hv:v < 0
  ·rw[if_pos hv];lia
  ·rw[if_neg hv];exact Nat.min_le_right _ _
def uqo (v:Int)(n d:Nat):(if v < 0 then max (v+(n:Int)) 0 else min v (n:Int))=((sIx n d (some v):Nat):Int):=by
 show (if v < 0 then max (v+(n:Int)) 0 else min v (n:Int))=(((if v < 0 then (v+(n:Int)).toNat else min v.toNat n):Nat):Int)
 by_cases hv:v < 0
 ·simp only[if_pos hv];lia
 ·simp only[if_neg hv];lia
theorem sqh (lo hi:Option Int)(n:Nat):Builtin.Slice.sliceAdjust lo hi 1 (n:Int)=(((sIx n 0 lo:Nat):Int),((sIx n n hi:Nat):Int)):=by
 have h1:¬ ((1:Int) < 0):=by lia
 unfold Builtin.Slice.sliceAdjust
 simp only[h1,if_false]
 refine Prod.ext ?_ ?_
 ·cases lo with
  |none=>rfl
  |some v=>exact uqo v n 0
 ·cases hi with
  |none=>rfl
  |some v=>exact uqo v n n
def rq8 (i j:Nat):Builtin.Slice.slicePlaces (i:Int) (j:Int) 1=j - i:=by
 unfold Builtin.Slice.slicePlaces
 have h1:(1:Int) > 0:=by lia
 simp only[h1,if_true,Int.ediv_one]
 split <;> lia
theorem mqU {v:Value}{o:Option Int}{Q:Option Int->Shared->Prop}(p:IsPart v o)(h:Q o s):wpAny (model prog w) A (Builtin.Slice.slicePartIndex v) Q E s:=by
 cases p with
 |none=>exact slicePart_none h
 |int i t=>exact slicePart_int h
theorem gqw {sl:Addr}{vl vu:Value}{lo hi:Option Int}{n:Nat}{Q:Int×Int×Nat->Shared->Prop}(hs:s.heap.IsSliceOf sl vl vu .none)(pl:IsPart vl lo)(pu:IsPart vu hi)
  (h:Q (((sIx n 0 lo:Nat):Int),1,sIx n n hi - sIx n 0 lo) s):wpAny (model prog w) A (Builtin.Slice.sliceApplied (.ref sl) (pure (n:Int))) Q E s:=by
 obtain⟨os,ac,ae,ad⟩:=id hs
 unfold Builtin.Slice.sliceApplied Builtin.Slice.sliceFields
 refine wpAny_bind (wpAny_bind (wpAny_field ac ad (x:=vl) rfl (wpAny_bind (wpAny_field ac ad (x:=vu) rfl (wpAny_bind (wpAny_field ac ad (x:=.none) rfl (wpAny_pure ?_)))))))
 refine wpAny_bind (slicePart_none ?_)
 show wpAny _ _ (if ((1:Int) == 0)=true then _ else _) _ _ s
 rw[if_neg (by decide)]
 refine wpAny_bind (mqU pl (wpAny_bind (mqU pu (wpAny_bind (wpAny_pure ?_)))))
 show wpAny _ _ (match Builtin.Slice.sliceAdjust lo hi 1 (n:Int) with|(lo,hi)=>pure (lo,(1:Int),Builtin.Slice.slicePlaces lo hi 1)) _ _ s
 rw[sqh lo hi n]
 show wpAny _ _ (pure (((sIx n 0 lo:Nat):Int),(1:Int),Builtin.Slice.slicePlaces ((sIx n 0 lo:Nat):Int) ((sIx n n hi:Nat):Int) 1)) _ _ s
 rw[rq8]
 exact wpAny_pure h
def vqp (xs:Array Value)(i k:Nat):((List.range k).filterMap fun (m:Nat)=>xs[((i:Int)+(m:Int) * 1).toNat]?).toArray=((xs.toList.drop i).take k).toArray:=by
 have e:(fun (m:Nat)=>xs[((i:Int)+(m:Int) * 1).toNat]?)=fun m=>xs[i+m]?:=by
  funext m
  have:((i:Int)+(m:Int) * 1).toNat=i+m:=by lia
  rw[this]
 rw[e]
 have:=pick_run xs i k
 rw[List.filterMap_map] at this
 have e2:((fun x=>xs[x]?) ∘ fun x=>i+x)=fun m=>xs[i+m]?:=rfl
 rw[e2] at this
 rw[this]
theorem getItem_tuple_cut {t sl:Addr}{items:Array Value}{vl vu:Value}{lo hi:Option Int}{Q:Value->Shared->Prop}(ht:IsTup s.heap t items)(hs:s.heap.IsSliceOf sl vl vu .none)(pl:IsPart vl lo)(pu:IsPart vu hi)
  (hw:¬ (sIx items.size 0 lo=0∧sIx items.size items.size hi=items.size))
  (h:Q (.ref s.heap.objs.size) {s with heap:=s.heap.push {cls:=.type "tuple",data:=.seq ((items.toList.drop (sIx items.size 0 lo)).take (sIx items.size items.size hi - sIx items.size 0 lo)).toArray} })
  (hsz:items.size≤sizeLine):wpAny (model prog w) A (getItem (.ref t) (.ref sl)) Q E s:=by
 have ac:sizeOk (.seq ((items.toList.drop (sIx items.size 0 lo)).take (sIx items.size items.size hi - sIx items.size 0 lo)).toArray):=by
  show ((items.toList.drop (sIx items.size 0 lo)).take (sIx items.size items.size hi - sIx items.size 0 lo)).toArray.size≤sizeLine
  rw[size_toArray,length_take,length_drop,Array.length_toList]
  lia
 have hj:sIx items.size items.size hi≤items.size:=zqg _ _ (Nat.le_refl _) hi
 obtain⟨os,ad,af,ah⟩:=id hs
 have ag:s.TypeIs (.ref sl) "slice" := ⟨os,ad,af⟩
 unfold getItem
 try with_reducible refine wpAny_holding ?_
 first|refine wpAny_bind (wpAny_pure ?_)|skip
 refine wpAny_bind (wpAny_sequenceKey ht.typeIs (by decide) ?_)
 refine wpAny_bind (wpAny_callSpecial?_slot (name:=Str.ofString "__getitem__") ht.typeIs PyProof.Rows.slot_tuple_getitem
  (wpAny_call_entry PyProof.Rows.slot_tuple_getitem ht.typeIs entry_tuple_getitem ?_ (args_tuple_getitem _ _)))
 show wpAny _ _ (Builtin.Tuple.tupleItemsOf (.ref t) >>= _) _ _ s
 refine wpAny_bind (tupleItemsOf_ ht ?_)
 refine wpAny_bind (wpAny_typeOf ag ?_)
 rw[if_pos (by decide)]
 refine wpAny_bind (gqw hs pl pu ?_)
 have ae:¬ ((((sIx items.size 0 lo:Nat):Int) == 0 && (1:Int) == 1 && (sIx items.size items.size hi - sIx items.size 0 lo) == items.size)=true):=by
  intro q
  rw[Bool.and_eq_true,Bool.and_eq_true] at q
  have q1:((sIx items.size 0 lo:Nat):Int)=0:=eq_of_beq q.1.1
  have q2:sIx items.size items.size hi - sIx items.size 0 lo=items.size:=eq_of_beq q.2
  exact hw ⟨by lia,by lia⟩
 show wpAny _ _ (if (((sIx items.size 0 lo:Nat):Int) == 0 && (1:Int) == 1 && (sIx items.size items.size hi - sIx items.size 0 lo) == items.size)=true then _ else _) _ _ s
 rw[if_neg ae,vqp]
 first
  |exact wpAny_bind (m:=Builtin.Tuple.tupleExact _) (wpAny_newObj_type (wpAny_pure ⟨_,rfl,wpAny_pure h⟩) ac)
  |exact wpAny_bind (m:=Builtin.Tuple.tupleExact _) (wpAny_newObj_type (wpAny_bind (wpAny_pure (wpAny_pure ⟨_,rfl,wpAny_pure h⟩))) ac)
  |exact wpAny_bind (wpAny_bind (m:=Builtin.Tuple.tupleExact _) (wpAny_newObj_type (wpAny_pure (wpAny_pure ⟨_,rfl,wpAny_pure h⟩)) ac))
  |exact wpAny_bind (wpAny_bind (m:=Builtin.Tuple.tupleExact _) (wpAny_newObj_type (wpAny_pure ⟨_,rfl,wpAny_pure h⟩) ac))
end
end HT
namespace L2
open PySem PySem.Spec PyProof.Rows
abbrev TO:=St->Hp->(Option Int->Hp->Prop)->Prop
def PO (X:Cx)(e:Option Expr)(t:TO):Prop:=
 ∀(pins:List (Addr×Obj)) (s:Shared) (σ:St) (H:Hp) (Q:Option Int->Hp->Prop),Inv X pins σ H s->t σ H Q ->
  wpAny (model X.prog X.w) X.A (evalPart e X.env) (fun u s'=>∃o H',Inv X pins σ H' s'∧IsPart u o∧Q o H') X.xe s
def tNoPart:TO:=fun _ H Q=>Q none H
def tPart (t:TE):TO:=fun σ H Q=>t σ H fun x H1=>∃i,x=.int i∧Q (some i) H1
section
variable {X:Cx}{e:Expr}{te:TE}{lo hi:Option Expr}{tl th:TO}{pos p2:Pos}
def iqh:PO X none tNoPart:=by
 intro pins s σ H Q I h
 rw[evalPart_none]
 exact wpAny_pure ⟨none,H,I,.none,h⟩
def cqR (h:PE X e te):PO X (some e) (tPart te):=by
 intro pins s σ H Q I hw
 rw[evalPart_some]
 refine thn (h pins s σ H _ I hw) fun u s1 W'=>?_
 obtain⟨x,H1,I1,r1,q1⟩:=W'
 obtain⟨i,rfl,q⟩:=q1
 obtain⟨t,rfl⟩:=r1
 exact⟨some i,H1,I1,.int i t,q⟩
def SlR (X:Cx)(r:V->Option Int->Option Int->Hp->VK->Prop):Prop:=
 ∀(pins:List (Addr×Obj)) (s:Shared) (σ:St) (H:Hp) (x:V) (v vl vu:Value) (lo hi:Option Int) (sl:Addr) (Q:VK),Inv X pins σ H s->RelV x v->s.heap.IsSliceOf sl vl vu .none->IsPart vl lo->IsPart vu hi->r x lo hi H Q ->
  ∃T id,typeLookup (.type T) "__getitem__"=pure (some (.builtin id))∧s.TypeIs v T∧wpAny (model X.prog X.w) X.A (getItem v (.ref sl)) (EP X pins σ Q) X.xe s
def SlR.or {r r':V->Option Int->Option Int->Hp->VK->Prop}(h:SlR X r)(h':SlR X r'):SlR X (fun x lo hi H Q=>r x lo hi H Q∨r' x lo hi H Q):=by
 intro pins s σ H x v vl vu lo hi sl Q I rx hs pl pu q
 rcases q with q|q
 ·exact h pins s σ H x v vl vu lo hi sl Q I rx hs pl pu q
 ·exact h' pins s σ H x v vl vu lo hi sl Q I rx hs pl pu q
def tSl (r:V->Option Int->Option Int->Hp->VK->Prop)(te:TE)(tl th:TO):TE:=fun σ H Q=>te σ H fun x H1=>tl σ H1 fun l H2=>th σ H2 fun u H3=>r x l u H3 Q
theorem cq4 {r:V->Option Int->Option Int->Hp->VK->Prop}(hr:SlR X r)(he:PE X e te)(hl:PO X lo tl)(hu:PO X hi th):PE X (.Subscript e (.Slice lo hi none p2) pos) (tSl r te tl th):=by
 intro ac s σ H Q I h
 refine Subscript_ (thn (he ac s σ H _ I h) fun v s1 W'=>?_)
 obtain⟨x,H1,I1,r1,q1⟩:=W'
 refine wpAny_Slice (thn (hl ac s1 σ H1 _ I1 q1) fun vl s2 ⟨l,H2,I2,pl,q2⟩=>thn (hu ac s2 σ H2 _ I2 q2) fun vu s3 W'=>?_)
 obtain⟨u,H3,I3,pu,q3⟩:=W'
 rw[evalPart_none]
 refine wpAny_pure ?_
 have I4:Inv X ac σ H3 {s3 with heap:=s3.heap.push {cls:=.type "slice",data:=.fields #[vl,vu,.none]} }:=I3.kept (t':=s3.toks) fun b ob q=>Heap.get?_push_of_some _ q
 obtain⟨T,id,hT,ht,hg⟩:=hr ac {s3 with heap:=s3.heap.push {cls:=.type "slice",data:=.fields #[vl,vu,.none]} } σ H3 x v vl vu l u s3.heap.objs.size Q I4 r1 (Heap.IsSliceOf.new ..) pl pu q3
 show wpAny (model X.prog X.w) X.A (subscriptTail e (.Slice lo hi none p2) v (.ref s3.heap.objs.size)) (EP X ac σ Q) X.xe {s3 with heap:=s3.heap.push {cls:=.type "slice",data:=.fields #[vl,vu,.none]} }
 exact tail_any (ops:=[.ref s3.heap.objs.size,v]) ht hT hg (by with_unfolding_all rfl)
def cutV (xs:List V)(lo hi:Option Int):List V:=(xs.drop (HT.sIx xs.length 0 lo)).take (HT.sIx xs.length xs.length hi - HT.sIx xs.length 0 lo)
def lqn (xs:List V)(lo hi:Option Int):(cutV xs lo hi).length≤xs.length:=by
 unfold cutV
 rw[length_take,length_drop]
 lia
def rSlT (K:W.Frag):V->Option Int->Option Int->Hp->VK->Prop:=fun x lo hi H Q=>∃a xs,x=.ref a∧SqT K H a xs ∧
 ¬ (HT.sIx xs.length 0 lo=0∧HT.sIx xs.length xs.length hi=xs.length)∧∀p,H p=none->Q (.ref p) (upd H p (.tup (cutV xs lo hi)))
theorem zqU:SlR X (rSlT X.K):=by
 intro ad s σ H x v vl vu lo hi sl Q I rx hs pl pu h
 obtain⟨a,xs,rfl,hx,hw,q⟩:=h
 cases rx
 obtain⟨ae,r,ht,hz⟩:=I.tuple hx
 have ac:ae.toArray.size=xs.length:=by rw[size_toArray];exact r.length.symm
 refine⟨"tuple",_,PyProof.Rows.slot_tuple_getitem.lookup,ht.typeIs,?_⟩
 refine HT.getItem_tuple_cut ht hs pl pu (by rw[ac];exact hw) ?_ (by rw[ac];exact hz)
 rw[ac]
 refine⟨.ref s.heap.objs.size,_,I.laid (t':=s.toks) (o:=.tup (cutV xs lo hi)) (fun b ob q=>Heap.get?_push_of_some _ q) (Nat.le_refl _) ?_,rfl,q _ (I.hok.fresh (Nat.le_refl _))⟩
 exact⟨Nat.le_trans (lqn xs lo hi) hz,_,(r.drop (HT.sIx xs.length 0 lo)).take (HT.sIx xs.length xs.length hi - HT.sIx xs.length 0 lo),IsTup.new _ _⟩
def rCatT (K:W.Frag):R2:=fun x y H Q=>∃a b xs ys,x=.ref a∧y=.ref b∧SqT K H a xs∧SqT K H b ys∧xs≠[]∧xs.length+ys.length≤sizeLine ∧
 (ys=[]->Q (.ref a) H)∧(ys≠[]->∀p,H p=none->Q (.ref p) (upd H p (.tup (xs++ys))))
theorem Vals.nil_iff {xs:List V}{us:List Value}(r:Vals xs us):us=[]↔xs=[]:=by
 cases r with
 |nil=>simp
 |cons _ _=>simp
theorem wq5:OpR X (binaryOp .Add) (rCatT X.K):=by
 intro ac s σ H x y v u Q I rx ry h
 obtain⟨a,b,xs,ys,rfl,rfl,ha,hb,hx,hz,q1,q2⟩:=h
 cases rx
 cases ry
 obtain⟨ae,r1,p1,_⟩:=I.tuple ha
 obtain⟨ad,r2,p2,_⟩:=I.tuple hb
 refine HT.cat_tup p1 p2 (fun z=>hx (r1.nil_iff.mp z)) (fun z=>⟨.ref a,H,I,rfl,q1 (r2.nil_iff.mp z)⟩) (fun z=>?_) (by rw[<- r1.length,<- r2.length];exact hz)
 refine⟨.ref s.heap.objs.size,_,I.laid (t':=s.toks) (o:=.tup (xs++ys)) (fun b ob q=>Heap.get?_push_of_some _ q) (Nat.le_refl _) ?_,rfl,q2 (fun w=>z (r2.nil_iff.mpr w)) _ (I.hok.fresh (Nat.le_refl _))⟩
 exact⟨by rw[length_append];exact hz,_,r1.append r2,IsTup.new _ _⟩
end
def ixN (n:Nat)(i:Int):Option Nat:=if 0≤i then (if i < n then some i.toNat else none) else if -(n:Int)≤i then some (i+n).toNat else none
def atI {α:Type}(xs:List α)(i:Int):Option α:=(ixN xs.length i).bind fun j=>xs[j]?
theorem sq5 {n:Nat}{i:Int}{j:Nat}(h:ixN n i=some j):seqIndex? i n=some j∧j < n∧-(n:Int)≤i∧i < n:=by
 unfold ixN at h
 by_cases h0:0≤i
 ·rw[if_pos h0] at h
  by_cases h1:i < n
  ·rw[if_pos h1] at h
   have e:i.toNat=j:=Option.some.inj h
   exact⟨by rw[seqIndex_of h0 h1,e],by lia,by lia,h1⟩
  ·rw[if_neg h1] at h;cases h
 ·rw[if_neg h0] at h
  by_cases h1:-(n:Int)≤i
  ·rw[if_pos h1] at h
   have e:(i+n).toNat=j:=Option.some.inj h
   exact⟨by rw[seqIndex_neg (by lia) h1,e],by lia,h1,by lia⟩
  ·rw[if_neg h1] at h;cases h
theorem pq6 {α:Type}{xs:List α}{i:Int}{v:α}(h:atI xs i=some v):∃j,seqIndex? i xs.length=some j∧xs[j]?=some v∧j < xs.length∧-(xs.length:Int)≤i∧i < xs.length:=by
 unfold atI at h
 cases e:ixN xs.length i with
 |none=>rw[e] at h;cases h
 |some j=>
  rw[e] at h
  obtain⟨h1,h2,h3,h4⟩:=sq5 e
  exact⟨j,h1,h,h2,h3,h4⟩
def aqs {α:Type}{xs:List α}{j:Nat}{v:α}(h:xs[j]?=some v):atI xs (j:Int)=some v:=by
 have hj:j < xs.length:=(List.getElem?_eq_some_iff.mp h).1
 have e:ixN xs.length (j:Int)=some j:=by
  unfold ixN
  rw[if_pos (by lia),if_pos (by lia)];simp
 unfold atI;rw[e];exact h
def PlainIx (b:Expr):Prop:=∀o i,subscripted b false o i=operate [o,i] (getItem o i)
def IxR (X:Cx)(r:R2):Prop:=
 ∀(value slice:Expr) (pins:List (Addr×Obj)) (s:Shared) (σ:St) (H:Hp) (x y:V) (v u:Value) (Q:VK),Inv X pins σ H s->RelV x v->RelV y u->r x y H Q ->
  subscripted slice false v u=operate [v,u] (getItem v u)->wpAny (model X.prog X.w) X.A (subscriptTail value slice v u) (EP X pins σ Q) X.xe s
def MtR (X:Cx)(id:String)(r:V->List V->Hp->VK->Prop):Prop:=
 ∀(pins:List (Addr×Obj)) (s:Shared) (σ:St) (H:Hp) (x:V) (xs:List V) (v:Value) (us:List Value) (Q:VK),Inv X pins σ H s->RelV x v->Vals xs us->r x xs H Q ->
  wpAny (model X.prog X.w) X.A (call (.builtin id) (v::us)) (EP X pins σ Q) X.xe s
section
variable {X:Cx}{a b:Expr}{ta tb:TE}{pos:Pos}
def IxR.or {r r':R2}(h:IxR X r)(h':IxR X r'):IxR X (fun x y H Q=>r x y H Q∨r' x y H Q):=by
 intro value slice pins s σ H x y v u Q I rx ry q hs
 rcases q with q|q
 ·exact h value slice pins s σ H x y v u Q I rx ry q hs
 ·exact h' value slice pins s σ H x y v u Q I rx ry q hs
def aqw {r:R2}(hr:IxR X r)(ha:PE X a ta)(hb:PE X b tb)(hs:PlainIx b):PE X (.Subscript a b pos) (tOp r ta tb):=by
 intro pins s σ H Q I h
 exact Subscript_ (binT ha hb I h fun v u s2 x y H2 I2 rx ry q=>hr a b pins s2 σ H2 x y v u Q I2 rx ry q (hs _ _))
def rIxL (K:W.Frag):R2:=fun x y H Q=>∃p xs i v,x=.ref p∧y=.int i∧SqL K H p xs∧atI xs i=some v∧Q v H
def rIxT (K:W.Frag):R2:=fun x y H Q=>∃p xs i v,x=.ref p∧y=.int i∧SqT K H p xs∧atI xs i=some v∧Q v H
def rIxS:R2:=fun x y H Q=>∃z i c,x=.str z∧y=.int i∧z.length≤sizeLine∧atI z.cps.toList i=some c∧Q (.str ⟨#[c]⟩) H
theorem yqf:IxR X (rIxL X.K):=by
 intro ad ae ac s σ H x y v u Q I rx ry h hs
 obtain⟨p,xs,i,z,rfl,rfl,hq,he,q⟩:=h
 cases rx
 obtain⟨t,rfl⟩:=ry
 obtain⟨ah,r,pl,hz⟩:=I.list hq
 obtain⟨j,h1,h2,h3,h4,h5⟩:=pq6 he
 obtain⟨w,ew,ag⟩:=r.get h2
 have hl:=r.length
 have hn:=line63
 have af:EP X ac σ Q w s:=⟨z,H,I,ag,q⟩
 by_cases h0:0≤i
 ·have hj:i.toNat=j:=by
   rw[seqIndex_of h0 h5] at h1
   exact Option.some.inj h1
  exact item_listR pl.isList h0 (by lia) (by rw[hj];simpa using ew) af hs
 ·have hj:(i+(ah.toArray.size:Int)).toNat=j:=by
   rw[seqIndex_neg (by lia) h4] at h1
   rw[size_toArray,<- hl]
   exact Option.some.inj h1
  exact subscriptTail_builtinR (x:=w) pl.isList.typeIs slot_list_getitem.lookup
   (wpAny_getItem_list_neg (Q:=fun r s'=>r=w∧EP X ac σ Q r s') pl.isList (by lia) (by rw[size_toArray] <;> lia) (by lia) (by rw[hj];simpa using ew) ⟨rfl,af⟩) hs
theorem zq9:IxR X (rIxT X.K):=by
 intro ad ae ac s σ H x y v u Q I rx ry h hs
 obtain⟨p,xs,i,z,rfl,rfl,hq,he,q⟩:=h
 cases rx
 obtain⟨t,rfl⟩:=ry
 obtain⟨ah,r,pl,hz⟩:=I.tuple hq
 obtain⟨j,h1,h2,h3,h4,h5⟩:=pq6 he
 obtain⟨w,ew,af⟩:=r.get h2
 have hl:=r.length
 have hn:=line63
 have ag:EP X ac σ Q w s:=⟨z,H,I,af,q⟩
 exact subscriptTail_builtinR (x:=w) pl.typeIs slot_tuple_getitem.lookup
  (getItem_tuple (j:=j) (Q:=fun r s'=>r=w∧EP X ac σ Q r s') pl (by lia) (by lia) (by rw[size_toArray,<- hl];exact h1) (by simpa using ew) ⟨rfl,ag⟩) hs
theorem zqW:IxR X rIxS:=by
 intro ac ad ae s σ H x y v u Q I rx ry h hs
 obtain⟨z,i,c,rfl,rfl,hz,he,q⟩:=h
 obtain⟨t,rfl⟩:=rx
 obtain⟨t',rfl⟩:=ry
 obtain⟨j,h1,h2,h3,h4,h5⟩:=pq6 he
 have hl:z.cps.toList.length=z.length:=by simp[Str.length]
 rw[hl] at h1 h4 h5
 have hn:=line63
 exact tail_any (typeIs_str s z t) slot_str_getitem.lookup (getItem_str (c:=c) (by
  have e1:decide (i < -(2 ^ 63:Int))=false:=decide_eq_false (by lia)
  have e2:decide (i ≥ 2 ^ 63)=false:=decide_eq_false (by lia)
  rw[e1,e2,Bool.or_false]) (by rw[h1];simpa using h2) ⟨.str ⟨#[c]⟩,H,I.tok _,⟨_,rfl⟩,q⟩) hs
def rIx (K:W.Frag):R2:=fun x y H Q=>rIxL K x y H Q∨rIxT K x y H Q∨rIxS x y H Q
def zqo:IxR X (rIx X.K):=yqf.or (zq9.or zqW)
def rqB (its:List Value)(n j:Nat)(u:Value):Obj.mapSeq (·.setIfInBounds j u) {cls:=.type "list",data:=.seq its.toArray n}={ cls:=.type "list",data:=.seq (its.set j u).toArray n}:=by
 simp[Obj.mapSeq]
def Inv.lst {pins:List (Addr×Obj)}{σ:St}{H:Hp}{s:Shared}{p:Addr}{xs:List V}(I:Inv X pins σ H s)(h:H p=some (.lst xs)) :
  ∃(its:List Value) (n:Nat),Vals xs its∧s.heap.get? p=some {cls:=.type "list",data:=.seq its.toArray n}∧xs.length≤sizeLine:=by
 obtain⟨z,its,n,r,e⟩:=I.hok p _ h
 exact⟨its,n,r,e,z⟩
theorem Inv.lstUpd {pins:List (Addr×Obj)}{σ:St}{H:Hp}{s:Shared}{p:Addr}{xs ys:List V}{its its':List Value}{n n':Nat}{f:Obj->Obj}(I:Inv X pins σ H s)(h:H p=some (.lst xs))
  (ho:s.heap.get? p=some {cls:=.type "list",data:=.seq its.toArray n}) (hf:f {cls:=.type "list",data:=.seq its.toArray n}={ cls:=.type "list",data:=.seq its'.toArray n' }) (r:Vals ys its') (hz:ys.length≤sizeLine) (t:Nat) :
  Inv X pins σ (upd H p (.lst ys)) {s with heap:=s.heap.update p f,toks:=t}:=by
 have e:(s.heap.update p f).get? p=some {cls:=.type "list",data:=.seq its'.toArray n' }:=by
  rw[Heap.get?_update_self f ho (by rw[hf] <;> rfl),hf]
 refine I.write (x:=p) (e:=p) (by rw[h];trivial) (.inl rfl) (fun b u hb q=>(Heap.get?_update_other _ _ (Ne.symm hb)).trans q) ⟨_,e⟩ ?_
 exact⟨hz,its',n',r,e⟩
def rSetL:V->V->V->Hp->(Hp->Prop)->Prop:=fun o i v H Q=>∃p xs k j,o=.ref p∧i=.int k∧H p=some (.lst xs)∧ixN xs.length k=some j∧Q (upd H p (.lst (xs.set j v)))
theorem vq1:PSet X rSetL:=by
 intro ac s σ H o i v ov iv u Q I ro ri rv h
 obtain⟨p,xs,k,j,rfl,rfl,hp,hj,q⟩:=h
 cases ro
 obtain⟨t,rfl⟩:=ri
 obtain⟨ad,n,r,ho,hz⟩:=I.lst hp
 obtain⟨h1,h2,h3,h4⟩:=sq5 hj
 have hl:=r.length
 have hn:=line63
 have I':Inv X ac σ (upd H p (.lst (xs.set j v))) {s with heap:=s.heap.update p (Obj.mapSeq (·.setIfInBounds j u))}:=
  I.lstUpd hp ho (rqB ad n j u) (r.set rv j) (by rw[List.length_set];exact hz) s.toks
 by_cases h0:0≤k
 ·have hk:k.toNat=j:=by
   rw[seqIndex_of h0 h4] at h1
   exact Option.some.inj h1
  exact PySem.W.ki_setAt ho h0 (by lia) (by rw[size_toArray,<- hl];exact h4) (by rw[hk];exact⟨_,I',q⟩)
 ·have hk:(k+(ad.toArray.size:Int)).toNat=j:=by
   rw[seqIndex_neg (by lia) h3] at h1
   rw[size_toArray,<- hl]
   exact Option.some.inj h1
  exact PySem.W.ki_setBack ho (by lia) (by rw[size_toArray,<- hl];exact h3) (by lia) (by rw[hk];exact⟨_,I',q⟩)
theorem pqw (lo hi:Option Int)(n:Nat):(sliceBounds lo hi none n).1=((HT.sIx n 0 lo:Nat):Int)∧(sliceBounds lo hi none n).2.1=((HT.sIx n n hi:Nat):Int)∧(sliceBounds lo hi none n).2.2=1:=by
 refine⟨?_,?_,rfl⟩
 ·cases lo with
  |none=>simp[sliceBounds,HT.sIx]
  |some i=>
   simp only[sliceBounds,HT.sIx,Option.getD_none,show (1:Int) > 0 by decide,if_true]
   by_cases h:i < 0
   ·simp only[h,if_true] <;> lia
   ·simp only[h,if_false] <;> lia
 ·cases hi with
  |none=>simp[sliceBounds,HT.sIx]
  |some i=>
   simp only[sliceBounds,HT.sIx,Option.getD_none,show (1:Int) > 0 by decide,if_true]
   by_cases h:i < 0
   ·simp only[h,if_true] <;> lia
   ·simp only[h,if_false] <;> lia
def nqu (its:List Value)(lo hi:Option Int):slicePick its.toArray lo hi none=((its.drop (HT.sIx its.length 0 lo)).take (HT.sIx its.length its.length hi - HT.sIx its.length 0 lo)).toArray:=by
 obtain⟨h1,h2,h3⟩:=pqw lo hi its.toArray.size
 unfold slicePick
 rw[h1,h2,h3]
 simp only[sliceRange_one,pick_run,size_toArray] <;> rfl
def rSlL (K:W.Frag):V->Option Int->Option Int->Hp->VK->Prop:=fun x lo hi H Q=>∃a xs,x=.ref a∧SqL K H a xs∧∀p,H p=none->Q (.ref p) (upd H p (.lst (cutV xs lo hi)))
theorem tqW:SlR X (rSlL X.K):=by
 intro ac s σ H x v vl vu lo hi sl Q I rx hs pl pu h
 obtain⟨a,xs,rfl,hx,q⟩:=h
 cases rx
 obtain⟨ae,r,ht,hz⟩:=I.list hx
 have ad:=r.length
 refine⟨"list",_,slot_list_getitem.lookup,ht.isList.typeIs,?_⟩
 refine wpAny_getItem_list_slice ht.isList hs pl pu .none (by simp) ?_ (by rw[size_toArray] <;> lia)
 rw[nqu,<- ad]
 refine⟨.ref s.heap.objs.size,_,I.laid (t':=s.toks) (o:=.lst (cutV xs lo hi)) (fun b ob q=>Heap.get?_push_of_some _ q) (Nat.le_refl _) ?_,rfl,q _ (I.hok.fresh (Nat.le_refl _))⟩
 exact⟨Nat.le_trans (lqn xs lo hi) hz,_,0,(r.drop (HT.sIx xs.length 0 lo)).take (HT.sIx xs.length xs.length hi - HT.sIx xs.length 0 lo),Heap.get?_push_size _ rfl⟩
def flatV:V->Bool
 |.non=>true
 |.bl _=>true
 |.int _=>true
 |.str _=>true
 |_=>false
def eqV:V->V->Bool
 |.non,.non=>true
 |.bl a,.bl b=>a == b
 |.bl a,.int b=>(if a then 1 else 0) == b
 |.int a,.bl b=>a == (if b then 1 else 0)
 |.int a,.int b=>a == b
 |.str a,.str b=>a == b
 |_,_=>false
theorem Aqd {A:Around}{s:Shared}{y x:V}{u v:Value}(ry:RelV y u)(rx:RelV x v)(fy:flatV y=true)(fx:flatV x=true):SeqAt.EqAt A s u v (eqV y x):=by
 cases y with
 |non=>
  cases ry
  cases x with
  |non=>cases rx;exact SeqAt.EqAt.same _
  |bl b=>cases rx;exact SeqAt.EqAt.none_bool b
  |int b=>obtain⟨t,rfl⟩:=rx;exact SeqAt.EqAt.none_int b t
  |str b=>obtain⟨t,rfl⟩:=rx;exact SeqAt.EqAt.none_str b t
  |_=>exact absurd (show false=true from fx) Bool.false_ne_true
 |bl a=>
  cases ry
  cases x with
  |non=>cases rx;exact SeqAt.EqAt.bool_none a
  |bl b=>cases rx;exact SeqAt.EqAt.bool_bool a b
  |int b=>obtain⟨t,rfl⟩:=rx;exact SeqAt.EqAt.bool_int a b t
  |str b=>obtain⟨t,rfl⟩:=rx;exact SeqAt.EqAt.bool_str a b t
  |_=>exact absurd (show false=true from fx) Bool.false_ne_true
 |int a=>
  obtain⟨t',rfl⟩:=ry
  cases x with
  |non=>cases rx;exact SeqAt.EqAt.int_none a t'
  |bl b=>cases rx;exact SeqAt.EqAt.int_bool a t' b
  |int b=>obtain⟨t,rfl⟩:=rx;exact SeqAt.EqAt.int_int a t' b t
  |str b=>obtain⟨t,rfl⟩:=rx;exact SeqAt.EqAt.int_str a t' b t
  |_=>exact absurd (show false=true from fx) Bool.false_ne_true
 |str a=>
  obtain⟨t',rfl⟩:=ry
  cases x with
  |non=>cases rx;exact SeqAt.EqAt.str_none a t'
  |bl b=>cases rx;exact SeqAt.EqAt.str_bool a t' b
  |int b=>obtain⟨t,rfl⟩:=rx;exact SeqAt.EqAt.str_int a t' b t
  |str b=>obtain⟨t,rfl⟩:=rx;exact SeqAt.EqAt.str_str a t' b t
  |_=>exact absurd (show false=true from fx) Bool.false_ne_true
 |_=>exact absurd (show false=true from fy) Bool.false_ne_true
def eqU (x:V)(u:Value):Bool:=match u with
 |.none=>eqV .non x
 |.bool b=>eqV (.bl b) x
 |.int i _=>eqV (.int i) x
 |.str z _=>eqV (.str z) x
 |_=>false
theorem wqs {x y:V}{u:Value}(r:RelV y u)(f:flatV y=true):eqU x u=eqV y x:=by
 cases y with
 |non=>cases r;rfl
 |bl b=>cases r;rfl
 |int i=>obtain⟨t,rfl⟩:=r;rfl
 |str z=>obtain⟨t,rfl⟩:=r;rfl
 |_=>exact absurd (show false=true from f) Bool.false_ne_true
theorem lqV {x:V}:∀{xs:List V}{us:List Value},Vals xs us->xs.all flatV=true->us.any (eqU x)=xs.any fun y=>eqV y x
 |_,_,.nil,_=>rfl
 |y::xs,u::us,.cons r t,f=>by
  rw[all_cons,Bool.and_eq_true] at f
  rw[any_cons,any_cons,wqs r f.1,lqV t f.2]
theorem jqt {A:Around}{s:Shared}{x:V}{v:Value}(rx:RelV x v)(fx:flatV x=true):∀{xs:List V}{us:List Value},Vals xs us->xs.all flatV=true->∀u∈us,SeqAt.EqAt A s u v (eqU x u)
 |_,_,.nil,_=>fun u hu=>by cases hu
 |y::xs,u::us,.cons r t,f=>fun u' hu=>by
  rw[all_cons,Bool.and_eq_true] at f
  rcases mem_cons.mp hu with rfl|hu
  ·rw[wqs r f.1];exact Aqd r rx f.1 fx
  ·exact jqt rx fx t f.2 u' hu
def inV (x:V)(xs:List V):Bool:=xs.any fun y=>eqV y x
def rIn (K:W.Frag)(neg:Bool):R2:=fun x y H Q=>∃p xs,y=.ref p∧(SqL K H p xs∨SqT K H p xs)∧flatV x=true∧xs.all flatV=true∧Q (.bl (if neg then !inV x xs else inV x xs)) H
theorem sqJ:OpR X (compareOp .In) (rIn X.K false):=by
 intro ad s σ H x y v u Q I rx ry h
 obtain⟨p,xs,rfl,hq,fx,fs,q⟩:=h
 cases ry
 rcases hq with hq|hq
 ·obtain⟨ac,r,pl,hz⟩:=I.list hq
  refine SeqAt.in_listAt (eqU x) pl.isList (fun w hw=>jqt rx fx r fs w (by simpa using hw)) ⟨.bl _,H,I,rfl,?_⟩
  rw[show ac.toArray.any (eqU x)=ac.any (eqU x) by simp,lqV r fs]
  exact q
 ·obtain⟨ac,r,pl,hz⟩:=I.tuple hq
  refine SeqAt.in_tupleAt (eqU x) pl (fun w hw=>jqt rx fx r fs w (by simpa using hw)) ⟨.bl _,H,I,rfl,?_⟩
  rw[show ac.toArray.any (eqU x)=ac.any (eqU x) by simp,lqV r fs]
  exact q
theorem pqz:OpR X (compareOp .NotIn) (rIn X.K true):=by
 intro ad s σ H x y v u Q I rx ry h
 obtain⟨p,xs,rfl,hq,fx,fs,q⟩:=h
 cases ry
 rcases hq with hq|hq
 ·obtain⟨ac,r,pl,hz⟩:=I.list hq
  refine SeqAt.notIn_listAt (eqU x) pl.isList (fun w hw=>jqt rx fx r fs w (by simpa using hw)) ⟨.bl _,H,I,rfl,?_⟩
  rw[show ac.toArray.any (eqU x)=ac.any (eqU x) by simp,lqV r fs]
  exact q
 ·obtain⟨ac,r,pl,hz⟩:=I.tuple hq
  refine SeqAt.notIn_tupleAt (eqU x) pl (fun w hw=>jqt rx fx r fs w (by simpa using hw)) ⟨.bl _,H,I,rfl,?_⟩
  rw[show ac.toArray.any (eqU x)=ac.any (eqU x) by simp,lqV r fs]
  exact q
theorem oqo:CallR X (.builtin "len") (fun xs H Q=>∃p ys,xs=[.ref p]∧(SqL X.K H p ys∨SqT X.K H p ys)∧Q (.int ys.length) H):=by
 intro ad s σ H xs us Q I r h
 obtain⟨p,ys,rfl,hq,q⟩:=h
 obtain⟨u,rfl,rx⟩:=vals1 r
 cases rx
 have hn:=line63
 rcases hq with hq|hq
 ·obtain⟨ae,r',pl,hz⟩:=I.list hq
  have ac:=r'.length
  exact Calls.call_len_list pl.isList (by simp only[size_toArray] <;> lia) ⟨.int ys.length,H,I.tok _,⟨s.toks+1,by rw[size_toArray,ac]⟩,q⟩
 ·obtain⟨ae,r',pl,hz⟩:=I.tuple hq
  have ac:=r'.length
  exact len_tuple pl (by simp only[size_toArray] <;> lia) ⟨.int ys.length,H,I.tok _,⟨s.toks+1,by rw[size_toArray,ac]⟩,q⟩
def pqk:CallR X (.builtin "len") (fun xs H Q=>∃z,xs=[.str z]∧z.length≤sizeLine∧Q (.int z.length) H):=by
 intro pins s σ H xs us Q I r h
 obtain⟨z,rfl,hz,q⟩:=h
 obtain⟨u,rfl,t,rfl⟩:=vals1 r
 have hn:=line63
 exact len_str (by lia) ⟨.int z.length,H,I.tok _,⟨_,rfl⟩,q⟩
theorem pqb:CallR X (.type "list") (fun xs H Q=>∃p ys,xs=[.ref p]∧(SqL X.K H p ys∨SqT X.K H p ys)∧∀l,H l=none->Q (.ref l) (upd H l (.lst ys))):=by
 intro ad s σ H xs us Q I r h
 obtain⟨p,ys,rfl,hq,q⟩:=h
 obtain⟨u,rfl,rx⟩:=vals1 r
 cases rx
 have ae:∀(ac:List Value),Vals ys ac->ys.length≤sizeLine->∀(h':Heap) (c':Nat),(∀b o',s.heap.get? b=some o'->h'.get? b=some o') ->
   h'.get? s.heap.objs.size=some {cls:=.type "list",dict:=none,data:=.seq ac.toArray c',slots:=#[]}->EP X ad σ Q (.ref s.heap.objs.size) {s with heap:=h' }:=fun ac r' hz h' c' kp e=>
  ⟨.ref s.heap.objs.size,_,I.laid (t':=s.toks) kp (Nat.le_refl _) (show ObjOk X.prog X.w _ h' _ (.lst ys) from ⟨hz,ac,c',r',e⟩),rfl,q _ (I.hok.fresh (Nat.le_refl _))⟩
 rcases hq with hq|hq
 ·obtain⟨ac,r',pl,hz⟩:=I.list hq
  have hlen:=r'.length
  obtain⟨o,ho,hc,n,hd⟩:=pl.isList
  exact call_list_seq p (.inl rfl) ho hc hd (fun h' c' kp e=>ae ac r' hz h' c' kp e) (by simp only[size_toArray] <;> lia)
 ·obtain⟨ac,r',pl,hz⟩:=I.tuple hq
  have hlen:=r'.length
  obtain⟨o,ho,hc,n,hd⟩:=pl
  exact call_list_seq p (.inr rfl) ho hc hd (fun h' c' kp e=>ae ac r' hz h' c' kp e) (by simp only[size_toArray] <;> lia)
theorem iq6:CallR X (.type "tuple") (fun xs H Q=>∃p ys,xs=[.ref p]∧((SqL X.K H p ys∧∀l,H l=none->Q (.ref l) (upd H l (.tup ys)))∨(SqT X.K H p ys∧Q (.ref p) H))):=by
 intro ac s σ H xs us Q I r h
 obtain⟨p,ys,rfl,h⟩:=h
 obtain⟨u,rfl,rx⟩:=vals1 r
 cases rx
 rcases h with⟨hq,q⟩|⟨hq,q⟩
 ·obtain⟨ad,r',pl,hz⟩:=I.list hq
  have hlen:=r'.length
  refine call_tuple_list pl.isList (fun h' kp=>?_) (by simp only[size_toArray] <;> lia)
  have I1:Inv X ac σ H {s with heap:=h' }:=I.kept (t':=s.toks) kp
  have I2:Inv X ac σ (upd H h'.objs.size (.tup ys)) {s with heap:=h'.push {cls:=.type "tuple",data:=.seq ad.toArray} }:=
   I1.laid (t':=s.toks) (fun b o e=>Heap.get?_push_of_some _ e) (Nat.le_refl _) (show ObjOk X.prog X.w _ _ _ (.tup ys) from ⟨hz,ad,r',IsTup.new _ _⟩)
  exact⟨.ref h'.objs.size,_,I2,rfl,q _ (I1.hok.fresh (Nat.le_refl _))⟩
 ·obtain⟨ad,r',pl,hz⟩:=I.tuple hq
  exact call_tuple_same pl ⟨.ref p,H,I,rfl,q⟩
def tyV (K:W.Frag)(T:String)(x:V)(H:Hp):Prop:=match x with
 |.str _=>T = "str"
 |.int _=>T = "int"
 |.ref p=>(T = "list" ∧ ∃xs,SqL K H p xs)∨(T = "tuple" ∧ ∃o,K.lookup p=some o∧o.cls=.type "tuple" ∧ o.dict=none) ∨
   (T = "dict" ∧ ((∃kvs,H p=some (.dK kvs))∨∃kvs,H p=some (.dT kvs)))∨(T = "set" ∧ ∃S n,H p=some (.set S n))
 |_=>False
theorem Aqk {pins:List (Addr×Obj)}{σ:St}{H:Hp}{s:Shared}{T:String}{x:V}{v:Value}(I:Inv X pins σ H s)(r:RelV x v)(ty:tyV X.K T x H) :
  s.TypeIs v T∧∀a,v=.ref a->∃ob,s.heap.get? a=some ob∧ob.dict=none:=by
 cases x with
 |str z=>
  obtain⟨t,rfl⟩:=r
  cases (show T = "str" from ty)
  exact⟨typeIs_str s z t,fun _ e=>nomatch e⟩
 |int i=>
  obtain⟨t,rfl⟩:=r
  cases (show T = "int" from ty)
  exact⟨typeIs_int s i t,fun _ e=>nomatch e⟩
 |ref p=>
  cases r
  rcases ty with⟨rfl,xs,hq⟩|⟨rfl,o,hk,hc,hd⟩|⟨rfl,hk⟩|⟨rfl,S,n,hk⟩
  ·obtain⟨ad,_,pl,_⟩:=I.list hq
   refine⟨pl.isList.typeIs,fun a e=>?_⟩
   cases e
   obtain⟨o,n,e,c,hd,_⟩:=pl
   exact⟨o,e,hd⟩
  ·refine⟨⟨o,I.kIn p o hk,hc⟩,fun a e=>?_⟩
   cases e
   exact⟨o,I.kIn _ o hk,hd⟩
  ·have z:∃o,s.heap.get? p=some o∧o.ExactDict:=by
    rcases hk with⟨ac,hk⟩|⟨ac,hk⟩
    ·obtain⟨_,_,_,_,o,_,_,e,ex,_⟩:=I.hok p _ hk
     exact⟨o,e,ex⟩
    ·obtain⟨_,_,_,_,o,_,_,e,ex,_⟩:=I.hok p _ hk
     exact⟨o,e,ex⟩
   obtain⟨o,e,ex⟩:=z
   refine⟨⟨o,e,ex.1⟩,fun a e2=>?_⟩
   cases e2
   exact⟨o,e,ex.2.1⟩
  ·obtain⟨o,_,_,_,e,ex,_⟩:=I.hok p _ hk
   refine⟨⟨o,e,ex.1⟩,fun a e2=>?_⟩
   cases e2
   exact⟨o,e,ex.2.1⟩
 |_=>exact False.elim ty
def tBM0 (K:W.Frag)(T:String)(r:V->List V->Hp->VK->Prop)(to:TE):TE:=fun σ H Q=>to σ H fun x H1=>tyV K T x H1∧r x [] H1 Q
def tBM (K:W.Frag)(T:String)(r:V->List V->Hp->VK->Prop)(to:TE)(t:TA):TE:=fun σ H Q=>to σ H fun x H1=>tyV K T x H1∧t σ H1 fun xs H2=>r x xs H2 Q
variable {o e:Expr}{es:List Expr}{to:TE}{t:TA}{name:Str}{apos cpos:Pos}{T id:String}{r:V->List V->Hp->VK->Prop}
theorem Aq3 (pa:PlainAttrs T)(slot:Slot T name id)(hty:typeOf (.builtin id)=pure (.type "method_descriptor"))(hm:MtR X id r)(ho:PE X o to)(ha:PA X (e::es) t)
  (hbase:attributeBase o name X.env (eval o X.env)=eval o X.env:=by rfl)
  (hfew:((backTo cpos (starEach (e::es) X.env)).all (fun x=>!x.1) && (backToKw cpos (keywordEach [] X.env)).all (fun x=>x.1.isSome)
   && decide ((e::es).length+([]:List Keyword).length+(if ([]:List Keyword).isEmpty then 0 else 1) < 30))=true:=by rfl)
  (hline:(apos.endLine == cpos.line)=true:=by rfl) (hs:starEach (e::es) X.env=(false,eval e X.env)::starEach es X.env:=by rfl) (hplain:(backTo cpos (starEach es X.env)).any (·.1)=false:=by rfl) :
  PE X (.Call (.Attribute o name apos) (e::es) [] cpos) (tBM X.K T r to t):=by
 intro ac s σ H Q I h
 refine wpAny_Call_method_late hbase hfew hline rfl (thn (ho ac s σ H _ I h) fun v s1 W'=>?_)
 obtain⟨x,H1,I1,r1,ty,q1⟩:=W'
 obtain⟨h1,h2⟩:=Aqk I1 r1 ty
 refine⟨T,id,pa,slot,hty,h1,h2,?_⟩
 have hA:=ha cpos ac s1 σ H1 _ I1 q1
 rw[hs] at hA ⊢
 refine Calls.callWith_builtin (by show (false || (backTo cpos (starEach es X.env)).any (·.1))=false;rw[hplain] <;> rfl) (Calls.evalArgs_plain ?_)
 exact thn hA fun us s2 ⟨vs,H2,I2,r2,q2⟩=>hm ac s2 σ H2 x vs v us Q I2 r1 r2 q2
end
def MtM (X:Cx)(id:String)(r:V->List V->Hp->VK->Prop):Prop:=
 ∀(pins:List (Addr×Obj)) (s:Shared) (σ:St) (H:Hp) (x:V) (xs:List V) (v:Value) (us:List Value) (Q:VK),Inv X pins σ H s->RelV x v->Vals xs us->r x xs H Q ->
  wpAny (model X.prog X.w) X.A (call (.builtin id) (v::us)) (EP X pins σ Q) X.xe s
theorem Vals.one:∀{x:V}{us:List Value},Vals [x] us->∃u,us=[u]∧RelV x u
 |_,_,.cons r .nil=>⟨_,rfl,r⟩
section
variable {X:Cx}{pins:List (Addr×Obj)}{σ:St}{H:Hp}{s:Shared}{l b:Addr}{xs ys zs:List V}
theorem Inv.lset {its its':List Value}{n:Nat}{f:Array Value->Array Value}{t':Nat}(I:Inv X pins σ H s)(hH:H l=some (.lst xs))
  (e:s.heap.get? l=some {cls:=.type "list",data:=.seq its.toArray n}) (hf:f its.toArray=its'.toArray) (hv:Vals ys its') (hz:ys.length≤sizeLine) :
  Inv X pins σ (upd H l (.lst ys)) {s with heap:=s.heap.update l (Obj.mapSeq f),toks:=t' }:=by
 have q:=PySem.IsL.update e f
 rw[hf] at q
 refine I.write (x:=l) (e:=l) (by rw[hH];exact trivial) (.inl rfl) (fun b' u hb hu=>(Heap.get?_update_other s.heap (Obj.mapSeq f) (Ne.symm hb)).trans hu) ⟨_,q⟩ ?_
 exact⟨hz,its',_,hv,q⟩
def Inv.lnew {its:List Value}{t':Nat}(I:Inv X pins σ H s)(hv:Vals ys its)(hz:ys.length≤sizeLine) :
  Inv X pins σ (upd H s.heap.objs.size (.lst ys)) {s with heap:=s.heap.push {cls:=.type "list",data:=.seq its.toArray},toks:=t' }:=
 I.laid (fun _ _ q=>Heap.get?_push_of_some _ q) (Nat.le_refl _) ⟨hz,its,0,hv,Heap.get?_push_size _ rfl⟩
def Inv.fresh (I:Inv X pins σ H s):H s.heap.objs.size=none:=I.hok.fresh (Nat.le_refl _)
def Inv.lstM (I:Inv X pins σ H s)(hH:H l=some (.lst xs)):xs.length≤sizeLine∧∃(its:List Value) (n:Nat),Vals xs its∧xs.length=its.length∧s.heap.get? l=some {cls:=.type "list",data:=.seq its.toArray n}:=by
 obtain⟨z,its,n,r,e⟩:=I.hok l _ hH
 exact⟨z,its,n,r,r.length,e⟩
def notLongL {n:Nat}(h:n≤sizeLine):Builtin.List.listTooLong n=false:=by
 unfold Builtin.List.listTooLong
 exact decide_eq_false (by lia)
end
section
variable {X:Cx}
def rAppend:V->List V->Hp->VK->Prop:=fun x vs H Q=>∃l xs y,x=.ref l∧vs=[y]∧H l=some (.lst xs)∧xs.length < sizeLine∧Q .non (upd H l (.lst (xs++[y])))
def bqu:MtM X "list.append" rAppend:=by
 intro ad s σ H x vs v us Q I rx rv h
 obtain⟨l,xs,y,rfl,rfl,hH,hz,q⟩:=h
 cases rx
 obtain⟨u,rfl,ru⟩:=rv.one
 obtain⟨z,ac,n,r,hl,e⟩:=I.lstM hH
 refine call_meets F.slot_list_append ⟨_,e,rfl⟩ F.entry_list_append (F.args_list_append_2 _ _) (PySem.list_append l ac.toArray n u (by rw[size_toArray];lia)) ⟨e,?_⟩
 refine⟨.non,_,I.lset (its':=ac++[u]) hH e (by simp) (r.append (.cons ru .nil)) ?_,rfl,q⟩
 rw[length_append,length_singleton]
 lia
def rExtend:V->List V->Hp->VK->Prop:=fun x vs H Q=>∃l b xs zs,x=.ref l∧vs=[.ref b]∧H l=some (.lst xs)∧H b=some (.lst zs)∧xs.length+zs.length≤sizeLine∧Q .non (upd H l (.lst (xs++zs)))
theorem tqq:MtM X "list.extend" rExtend:=by
 intro af s σ H x vs v us Q I rx rv h
 obtain⟨l,b,xs,zs,rfl,rfl,hH,hB,hz,q⟩:=h
 cases rx
 obtain⟨u,rfl,ru⟩:=rv.one
 cases ru
 obtain⟨z,ad,n,r,hl,e⟩:=I.lstM hH
 obtain⟨z2,ac,n2,r2,ah,e2⟩:=I.lstM hB
 have ag:ad.toArray.size+ac.toArray.size≤sizeLine:=by rw[size_toArray,size_toArray];lia
 have ae:¬ (!ad.toArray.isEmpty && Builtin.List.listTooLong (ad.toArray.size+ac.toArray.size))=true:=by
  rw[notLongL ag,Bool.and_false]
  exact Bool.false_ne_true
 refine call_meets F.slot_list_extend ⟨_,e,rfl⟩ F.entry_list_extend (F.args_list_extend_2 _ _)
  (AutoSeq1.list_extend_list_list_0 l ad.toArray n b ac.toArray n2 ae (by rw[size_toArray];lia) (by lia)) ⟨e,e2,?_⟩
 refine⟨.non,_,I.lset (its':=ad++ac) hH e (by simp) (r.append r2) ?_,rfl,q⟩
 rw[length_append]
 lia
def rPop:V->List V->Hp->VK->Prop:=fun x vs H Q=>∃l xs y,x=.ref l∧vs=[]∧H l=some (.lst xs)∧xs[xs.length - 1]?=some y∧Q y (upd H l (.lst xs.dropLast))
def rPopAt:V->List V->Hp->VK->Prop:=fun x vs H Q=>∃l xs i k y,x=.ref l∧vs=[.int i]∧H l=some (.lst xs)∧-(2 ^ 63)≤i∧i < 2 ^ 63∧seqIndex? i xs.length=some k∧xs[k]?=some y∧Q y (upd H l (.lst (xs.eraseIdx k)))
def rReverse:V->List V->Hp->VK->Prop:=fun x vs H Q=>∃l xs,x=.ref l∧vs=[]∧H l=some (.lst xs)∧Q .non (upd H l (.lst xs.reverse))
def rCat:R2:=fun x y H Q=>∃l b xs zs,x=.ref l∧y=.ref b∧H l=some (.lst xs)∧H b=some (.lst zs)∧xs.length+zs.length≤sizeLine∧∀p,H p=none->Q (.ref p) (upd H p (.lst (xs++zs)))
def zq3:OpR X (binaryOp .Add) rCat:=by
 intro ae s σ H x y v u Q I rx ry h
 obtain⟨l,b,xs,zs,rfl,rfl,hH,hB,hz,q⟩:=h
 cases rx
 cases ry
 obtain⟨z,ad,n,r,hl,e⟩:=I.lstM hH
 obtain⟨z2,ac,n2,r2,af,e2⟩:=I.lstM hB
 refine PySem.P.add_list e e2 ?_ (by rw[size_toArray,size_toArray];lia)
 have ea:ad.toArray++ac.toArray=(ad++ac).toArray:=by simp
 rw[ea]
 exact⟨.ref _,_,I.lnew (t':=s.toks) (r.append r2) (by rw[length_append];lia),rfl,q _ I.fresh⟩
end
section
variable {prog:Program}{w:World}{A:Around}{E:Value->Shared->Prop}{s:Shared}
set_option maxRecDepth 100000 in
end
section
variable {X:Cx}
end
end L2
namespace Att
open PySem PySem.W PySem.Calls PyProof.Rows
theorem lqZ {P:Params}{h:Heap}:∀(ns:List Int) (vs:List Value),WellAll P h vs (ns.map WData.int)->IntsAre vs ns:=by
 intro ns
 induction ns with
 |nil=>
  intro vs w
  rw[map_nil] at w
  cases w
  exact .nil
 |cons n ns ih=>
  intro vs w
  rw[map_cons] at w
  cases w with
  |cons a b=>
   cases a
   exact .cons _ _ (ih _ b)
theorem tqA {l:OpenLaw}{n:Nat}(hn:l.most=some n){P:Params}{h:Heap}{args:List WData}{vals:List Value}
  (hpre:l.row.toRowW.claim.pre args=true) (hwl:WellAll P h vals args) :
  ∃a vs ns,vals=[Value.ref a]∧args=[WData.list (ns.map WData.int)]∧h.get? a=some {cls:=.type "list",data:=.seq vs.toArray}∧IntsAre vs ns∧ns.length≤n:=by
 have ad:WShape.hasAll [] args [.list .int]=true:=(pre_splitW hpre).1
 have hc:l.pre.holds [] {args:=args}=true:=(pre_splitW hpre).2
 obtain⟨d,r,rfl,h1,h2⟩:=hasAllW_cons ad
 obtain rfl:=hasAllW_nil h2
 obtain⟨xs,rfl,h3⟩:=hasW_list h1
 obtain⟨ns,rfl⟩:=items_int h3
 have ac:ns.length≤n:=by
  unfold OpenLaw.pre at hc
  have h4:(WTm.not (.lt (.lit (.int (n:Int))) (.len (.arg 0)))).holds [] {args:=[.list (ns.map .int)]}=true:=by
   have h4:=(holds_andW hc).1
   rw[hn] at h4
   exact h4
  have h5:=condW_of h4 (w_not (w_lt w_lit (w_len_list (w_arg rfl))))
  rw[length_map] at h5
  refine Nat.le_of_not_lt fun q=>?_
  have q':(n:Int) < ((ns.length:Nat):Int):=by lia
  first
   | (rw[decide_eq_true q'] at h5;exact absurd h5 (by decide))
   | (simp at h5;lia)
 cases hwl with
 |cons w1 w2=>
  cases w2
  cases w1 with
  |list ho hall=>exact⟨_,_,ns,rfl,rfl,ho,lqZ ns _ hall,ac⟩
def tqI (l:OpenLaw)(args:List WData):l.row.toRowW.claim.post args (.bool true) args=true:=
 postW_of (r:=l.row.toRowW) (X:=(true == true))
  (show WShape.has [] (.bool true) .bool=true by first|rfl|decide|simp[WShape.has,WShape.arms,WShape.armsAll])
  (show (WTm.eq .res (.lit (.bool true))).value [] {args:=args,res:=some (.bool true),after:=args}=some (.bool (true == true)) from w_eq_bool (w_res rfl) w_lit) rfl
theorem attach_call {l:OpenLaw}{n:Nat}{q:Program}{loose:List Str}{XP:(Str->Option Value)->Heap->Prop}{YP:World->Heap->Prop}{d:DefRec}
  (hn:l.most=some n) (hdf:d.params.defaults=[])
  (call:∀(w:World) (s₀ s₁:Shared) (mg mb:Str->Option Value) (fa:Addr) (o:Obj) (pm cd doc:Value) (a:Addr) (vs:List Value) (ns:List Int),
   Ground q loose [] XP w s₀ mg mb s₁.heap->YP w s₁.heap ->
   s₁.heap.get? fa=some o->o.data=.func (docDef d.name d.params d.body d.scope pm cd doc)->s₁.heap.CodeRec cd d.name->mg d.name=some (.ref fa) ->
   s₁.heap.get? a=some {cls:=.type "list",data:=.seq vs.toArray}->IntsAre vs ns->ns.length≤n->s₁.gens=#[] ->
   codeAny (model l.prog w) callerA (.call (.ref fa) ⟨[.ref a],[]⟩) (fun r s'=>r=.ok (.ret (.bool true))∧OldK s₁.heap s'.heap∧s'.os=s₁.os∧AllBare s'.gens) s₁) :
  WalkO q loose XP YP l.row.toRowW d [] (fun f vs=>PySem.call f vs):=by
 intro w s₀ s₁ mg mb G Y fa o pm cd doc dV kV ho hd al hD ai hg am ag as ad aj ao ah ap
 obtain rfl:dV=.none:=Dflts.none hD hdf
 obtain rfl:kV=.none:=Dflts.noKw hD
 obtain⟨a,vs,ns,rfl,rfl,ae,ac,af⟩:=tqA hn ad ah
 refine enter_call (codeAny_mono (call w s₀ s₁ mg mb fa o pm cd doc a vs ns G Y ho (fd_plain hd) al ai ae ac af hg) fun r s' hq=>?_)
 obtain⟨rfl,h2,h3,h4⟩:=hq
 exact⟨.inl ⟨.bool true,.bool true,[],rfl,fun _=>rfl,.bool true,tqI l _,fun _=>⟨List.Pairwise.nil,fun _ hm=>(nomatch hm)⟩⟩,h2,h3,h4⟩
section
variable {prog:Program}{w:World}{A:Around}{E:Value->Shared->Prop}{s:Shared}{K:Frag}
def ledger (h:Heap)(L d:Addr):List (Addr×Obj):=(List.range h.objs.size).filterMap fun a=>if a=L∨a=d then none else (h.get? a).map fun o=>(a,o)
end
end Att
namespace L2
open PySem PySem.Spec PyProof.Rows
theorem oq0:∀{vs:List Value}{ns:List Int},IntsAre vs ns->Vals (ns.map V.int) vs
 |_,_,.nil=>.nil
 |_,_,.cons n t h=>.cons ⟨t,rfl⟩ (oq0 h)
def Only (H:Hp):Prop:=∀b,H b=none∨∃o xs,H b=some (.frz o (.lst xs))
theorem vq9 {P:Program}{w:World}{K:W.Frag}{mg mb:Str->Option Value}{CX:CXT}{k:Nat}{fa a:Addr}{fd:FuncData}{x:Str}{sp:Sp}{s₁:Shared}{vs:List Value}{ns:List Int}
  (KX:K.In s₁.heap) (hns:s₁.heap.Ns mainGlobals mg) (hb:s₁.heap.Ns builtinsNs mb) (hbb:∀x:Str,x ≠ "__name__" -> mb x=bootBuiltins x) (hlim:s₁.heap.NoLimit) (hg:s₁.gens=#[])
  (ha:s₁.heap.get? a=some {cls:=.type "list",data:=.seq vs.toArray}) (hi:IntsAre vs ns) (hl:ns.length≤sizeLine) (hr:Room k callerA)
  (F:∀base:Heap,K.In base->base.Ns mainGlobals mg->FnOk P w K mg base CX k fa fd [x] sp) (hbind:∀(s:Shared) (u:Value),BindsTo s fd ⟨[u],[]⟩ [(x,u)])
  (hsp:∀H:Hp,Only H->SqL K H a (ns.map V.int)->sp [.ref a] H (fun v _=>v=.bl true) fun _ _ _=>False)
  (hCX:∀H e s',CX [] H s₁ (fun _ _ _=>False) e s'->False) :
  codeAny (model P w) callerA (.call (.ref fa) ⟨[.ref a],[]⟩) (fun r s'=>r=.ok (.ret (.bool true))∧OldK s₁.heap s'.heap∧s'.os=s₁.os∧AllBare s'.gens) s₁:=by
 have rv:=oq0 hi
 have al:=hi.length
 have ad:∀H:Hp,Only H->SqL K H a (ns.map V.int)->HOk P w H s₁.heap->(∀b,H b≠none->b=a)->(H a≠none->K.lookup a=none) ->
   codeAny (model P w) callerA (.call (.ref fa) ⟨[.ref a],[]⟩) (fun r s'=>r=.ok (.ret (.bool true))∧OldK s₁.heap s'.heap∧s'.os=s₁.os∧AllBare s'.gens) s₁:=by
  intro H hO hS ah hA hK
  have ac:∀{b:Addr}{o:Obj},s₁.heap.get? b=some o->H b=none->(hidT s₁.heap H).get? b=some o:=fun e n=>uqZ e n
  have aj:∀{b:Addr}{o:Obj}{es:Array DictEntry}{ep:Nat},s₁.heap.get? b=some o->o.data=.dict es ep->H b=none:=fun {b o es ep} e d=>by
   cases q:H b with
   |none=>rfl
   |some u=>
    have e':b=a:=hA b (by rw[q];simp)
    subst e'
    rw[ha] at e;cases e
    have d':Data.seq vs.toArray _=Data.dict es ep:=d
    cases d'
  have ae:∀{b:Addr}{m:Str->Option Value},s₁.heap.Ns b m->(hidT s₁.heap H).Ns b m:=fun {b m} ⟨o,es,ep,e,d,r⟩=>⟨o,es,ep,ac e (aj e d),d,r⟩
  have ai:K.In (hidT s₁.heap H):=fun b o e=>ac (KX b o e) (by
   cases q:H b with
   |none=>rfl
   |some u=>
    have e':b=a:=hA b (by rw[q];simp)
    subst e'
    rw[hK (by rw[q];simp)] at e;cases e)
  have hM:Mod K mg (hidT s₁.heap H):=⟨ai,ae hns,⟨mb,ae hb,hbb⟩,let ⟨mc,h1,h2⟩:=hlim;⟨mc,ae h1,h2⟩⟩
  have e0:Env0 P w K mg (hidT s₁.heap H) callerA [] s₁ H:=⟨rfl,hM,fun b o e=>wqR e,Nat.le_of_eq (tqY _ _),trivial,fun b hb=>absurd (show b∈([]:List Addr) from hb) (by simp),ah,.of_eq hg⟩
  refine codeAny_mono ((F _ ai (ae hns)).run callerA [] s₁ H ⟨[.ref a],[]⟩ [.ref a] [.ref a] _ _ hr e0 (hbind s₁ (.ref a)) (.cons rfl .nil) (hsp H hO hS)) fun r s' h=>?_
  cases r with
  |error e=>exact (hCX H e s' h).elim
  |ok fl=>
   cases fl with
   |next=>exact False.elim h
   |brk=>exact False.elim h
   |cont=>exact False.elim h
   |ret u=>
    obtain⟨v,H',os,ag,un,af,r',q⟩:=h
    have q':v=.bl true:=q
    subst q'
    obtain rfl:u=Value.bool true:=r'
    refine⟨rfl,OldK.of_keep fun b o e=>?_,os,ag⟩
    cases q:H b with
    |none=>exact un.keep b o e q (by intro z;exact absurd (show b∈([]:List Addr) from z) (by simp)) (by simp)
    |some u=>
     rcases hO b with z|⟨ob,xs,z⟩
     ·rw[q] at z;cases z
     ·have z2:=un.frzs b ob _ z
      obtain⟨e1,_⟩:=ah b _ z
      obtain⟨e2,_⟩:=af b _ z2
      rw[e] at e1;cases e1
      exact e2
 cases hk:K.lookup a with
 |some o=>
  have e:=KX a o hk
  rw[ha] at e
  cases e
  refine ad (fun _=>none) (fun _=>.inl rfl) (.inr ⟨_,vs.toArray,_,hk,rfl,rfl,rfl,by rw[size_toArray,al];exact hl,by simpa using rv⟩) (fun b u z=>by have z':(none:Option HO)=some u:=z;cases z') (fun b z=>absurd rfl z) fun z=>absurd rfl z
 |none=>
  refine ad (fun b=>if b=a then some (.frz {cls:=.type "list",data:=.seq vs.toArray} (.lst (ns.map V.int))) else none) (fun b=>?_) (.inl (.inr ⟨{cls:=.type "list",data:=.seq vs.toArray},if_pos rfl⟩)) (fun b u z=>?_) (fun b z=>?_) fun _=>hk
  ·by_cases hb:b=a
   ·exact .inr ⟨_,_,if_pos hb⟩
   ·exact .inl (if_neg hb)
  ·by_cases hb:b=a
   ·have z':=(if_pos hb).symm.trans z
    cases z'
    subst hb
    exact⟨ha,by rw[length_map];exact hl,vs,_,rv,ha⟩
   ·have z':=(if_neg hb).symm.trans z
    cases z'
  ·by_cases hb:b=a
   ·exact hb
   ·exact absurd (if_neg hb) z
abbrev KOf {K:W.Frag}{h:Heap}(_:K.In h):W.Frag:=K
theorem yqD {l:PySem.W.OpenLaw}{n k:Nat}{q:Program}{loose:List Str}{XP:(Str->Option Value)->Heap->Prop}{YP:World->Heap->Prop}{d:DefRec}{K:Params->W.Frag}{CX:World->CXT}{sp:World->Sp}{x:Str}
  (hn:l.most=some n) (hn2:n≤sizeLine) (hdf:d.params.defaults=[]) (hr:Room k callerA)
  (hY:∀(w:World) (h:Heap),YP w h->(K w.params).In h)
  (F:∀(w:World) (mg:Str->Option Value) (fa:Addr) (h:Heap),(K w.params).In h->h.Ns mainGlobals mg->mg d.name=some (.ref fa) ->
   ∃fd:FuncData,(∀(s:Shared) (u:Value),BindsTo s fd ⟨[u],[]⟩ [(x,u)]) ∧
    ∀base:Heap,(K w.params).In base->base.Ns mainGlobals mg->FnOk l.prog w (K w.params) mg base (CX w) k fa fd [x] (sp w))
  (hsp:∀(w:World) (H:Hp) (a:Addr) (ns:List Int),ns.length≤n->Only H->SqL (K w.params) H a (ns.map V.int)->sp w [.ref a] H (fun v _=>v=.bl true) fun _ _ _=>False)
  (hCX:∀(w:World) (H:Hp) (s:Shared) (e:Value) (s':Shared),CX w [] H s (fun _ _ _=>False) e s'->False) :
  PySem.W.WalkO q loose XP YP l.row.toRowW d [] (fun f vs=>PySem.call f vs):=by
 refine Att.attach_call hn hdf fun w s₀ s₁ mg mb fa o pm cd ah a vs ns G Y ho hd ag af ae ad ac hg=>?_
 have KX:=hY w _ Y
 obtain⟨fd,hb,hF⟩:=F w mg fa _ KX G.T.g af
 exact vq9 KX G.T.g G.T.b G.T.builtins G.T.nolimit hg ae ad (Nat.le_trans ac hn2) hr hF hb (fun H hO hS=>hsp w H a ns ac hO hS) fun H e s'=>hCX w H s₁ e s'
def inClass (s:Stmt)(j:Nat):Stmt:=match s with
 |.ClassDef _ _ _ body _ _ _ _ _ _ _=>body.getD j (.Pass ⟨0,0,0,0⟩)
 |_=>.Pass ⟨0,0,0,0⟩
def defArgs (s:Stmt):Arguments:=match s with
 |.FunctionDef _ a _ _ _ _ _ _ _ _=>a
 |_=>{ posonlyargs:=[],args:=[],vararg:=none,kwonlyargs:=[],kw_defaults:=[],kwarg:=none,defaults:=[]}
def defBody (s:Stmt):List Stmt:=match s with
 |.FunctionDef _ _ b _ _ _ _ _ _ _=>b
 |_=>[]
def defScope (s:Stmt):Scope:=match s with
 |.FunctionDef _ _ _ _ _ _ sc _ _ _=>sc
 |_=>{ kind:=.function,names:=[],isGenerator:=false,isCoroutine:=false}
abbrev CX0:CXT:=fun _ _ _ _ _ _=>False
abbrev E0:XK:=fun _ _ _=>False
def pass0 {X:Cx}:Passes CX0 X E0:=fun _ _ _ _ _ _ _ h=>h.elim
structure Fun (K:W.Frag)(x qual:Str)(st:Stmt)(f:Addr)(fd:FuncData):Prop where
 ex:∃(oc:Value) (od:Option Addr) (kV doc pm:Value) (an:Option Addr) (cdv ct:Value) (osl:Array (Option Value)),
  fd=PySem.W.fnOf x qual (defArgs st) (defBody st) (defScope st) .none kV doc pm an cdv ct∧K.lookup f=some ⟨oc,od,.func fd,osl⟩∧PySem.W.codeIn K cdv qual=true
 kp:PySem.W.keepIn K (.ref f)=true
section
variable {P:Program}{w:World}{K:W.Frag}{mg:Str->Option Value}{base:Heap}
theorem Fun.ok {x qual:Str}{st:Stmt}{f:Addr}{fd:FuncData}{N ps:List Str}{k:Nat}{sp:Sp}(F:Fun K x qual st f fd)(S:FnScope N ps (defScope st))(len:∀vs H Q E,sp vs H Q E->vs.length=ps.length)
  (hbody:∀(cdv:Value) (A:Around) (outer:List Env) (s:Shared) (H:Hp) (vs:List V) (Q:VK) (E:XK),Room k (A.deeper (envOfC qual (defScope st) s.heap.objs.size f cdv))->sp vs H Q E ->
   ∃t,PSs (cxOf CX0 P w K mg base N qual (defScope st) f cdv A outer s H E).nox (defBody st) t∧t {nx:=fun _ H'=>Q .non H',rt:=Q} (start N vs) H):FnOk P w K mg base CX0 (k+1) f fd ps sp:=by
 obtain⟨oc,od,kV,doc,pm,an,cdv,ct,osl,rfl,lk,hcd⟩:=F.ex
 refine uq2 lk hcd S len fun A outer s H vs Q E hr hsp=>?_
 obtain⟨t,h,q⟩:=hbody cdv A outer s H vs Q E hr hsp
 exact⟨t,h.nox,q⟩
def Fun.binds {x qual:Str}{st:Stmt}{f:Addr}{fd:FuncData}{ps:List Str}(F:Fun K x qual st f fd)
  (h:∀(kV doc pm:Value) (an:Option Addr) (cdv ct:Value) (us:List Value),us.length=ps.length->bindArgs (PySem.W.fnOf x qual (defArgs st) (defBody st) (defScope st) .none kV doc pm an cdv ct) ⟨us,[]⟩=pure (ps.zip us)):Binds K fd ps []:=by
 obtain⟨oc,od,kV,doc,pm,an,cdv,ct,osl,rfl,lk,hcd⟩:=F.ex
 exact .all (h kV doc pm an cdv ct)
def aqv {x qual:Str}{st:Stmt}{f:Addr}{oc:Value}{od an:Option Addr}{osl:Array (Option Value)}{kV doc pm cdv ct:Value}(l:K.lookup f=some ⟨oc,od,.func (PySem.W.fnOf x qual (defArgs st) (defBody st) (defScope st) .none kV doc pm an cdv ct),osl⟩)
  (c:PySem.W.codeIn K cdv qual=true) (k:PySem.W.keepIn K (.ref f)=true):Fun K x qual st f (PySem.W.fnOf x qual (defArgs st) (defBody st) (defScope st) .none kV doc pm an cdv ct):=⟨⟨oc,od,kV,doc,pm,an,cdv,ct,osl,rfl,l,c⟩,k⟩
end
section
variable {X:Cx}
def pv (i:Nat){x:Str}{pos:Pos}(hN:X.N[i]?=some x:=by rfl)(hv:Vis X.env.scope x:=by first|exact Or.inl rfl|exact Or.inr (Or.inl rfl)|exact Or.inr (Or.inr rfl))(hd:(x == ("__debug__" : Str))=false:=by decide)
  (hcd:(x == ("__classdict__" : Str))=false:=by decide):PE X (.Name x pos) (tVar i):=zqb hN hv hd hcd
end
def ite2 {c A B:Prop}[Decidable c](h1:c->A)(h2:¬ c->B):if c then A else B:=by
 by_cases h:c
 ·rw[if_pos h]
  exact h1 h
 ·rw[if_neg h]
  exact h2 h
def Same (H H':Hp):Prop:=∀b o,H b=some o->H' b=some o
def Same.refl (H:Hp):Same H H:=fun _ _ h=>h
def Same.trans {H H1 H2:Hp}(a:Same H H1)(b:Same H1 H2):Same H H2:=fun c o h=>b c o (a c o h)
def Same.seq {K:W.Frag}{H H':Hp}{a:Addr}{xs:List V}(e:Same H H')(h:SqL K H a xs):SqL K H' a xs:=by
 rcases h with (h|⟨o,h⟩)|h
 ·exact .inl (.inl (e _ _ h))
 ·exact .inl (.inr ⟨o,e _ _ h⟩)
 ·exact .inr h
end L2
set_option maxHeartbeats 4000000
namespace L2
open PySem PySem.Spec PyProof.Rows
def Its (z:Str):It:=⟨fun i _=>i < z.length,fun i H x H'=>H'=H∧∃c,z.cps.toList[i]?=some c∧x=.str ⟨#[c]⟩,fun i _=>z.length≤i⟩
def tqh {z:Str}{i:Nat}(h:i < z.length):∃c,z.cps[i]?=some c∧z.cps.toList[i]?=some c:=by
 have h':i < z.cps.size:=h
 exact⟨z.cps[i],by simp[h'],by simp[h']⟩
def rqt {z:Str}{i:Nat}(h:z.length≤i):z.cps[i]?=none:=by
 have h':z.cps.size≤i:=h
 simp[h']
theorem tq6 {P:Program}{w:World}{K:W.Frag}{tg:Expr}(it:Addr)(z:Str)(t:Tok):Turn P w K tg (Its z) [it] it (fun i h=>h.IsStrIter it "str_ascii_iterator" z t i) where
 mem:=by simp
 obj:=fun i h st b hb=>by
  have e:b=it:=by simpa using hb
  subst e
  obtain⟨o,e,c,d⟩:=st
  exact⟨o,e,fun v z=>by rw[d] at z;cases z⟩
 keep:=fun i h h' st k=>by
  obtain⟨o,e,r⟩:=st
  exact⟨o,k it (by simp) o e,r⟩
 item:=by
  intro X hP hw hK hc i ac s σ H E I hf st hg
  subst hP hw hK
  obtain⟨c,h1,h2⟩:=tqh (z:=z) (i:=i) hg
  obtain⟨f0,f1,f2,f3,f4,f5⟩:=hf it (by simp)
  refine wpAny_pyNext_ascii_item st h1 fun h' ad sb=>?_
  have I1:Inv X ac σ H {s with heap:=h',toks:=s.toks+1}:=I.turned (t':=s.toks+1) (fun b o hb e=>(sb.2 b hb).trans e) f0 f1 f3 f4 f5
  obtain⟨o,e,cl,d⟩:=id ad
  exact⟨_,rfl,uqq (s:={ s with heap:=h',toks:=s.toks+1}) e cl d (by decide) ⟨.str ⟨#[c]⟩,H,I1,⟨_,rfl⟩,⟨rfl,c,h2,rfl⟩,ad,fun b hb=>(hf b hb).1⟩⟩
 done:=by
  intro X hP hw hK hc i ac s σ H E I hf st hg
  subst hP hw hK
  obtain⟨f0,f1,f2,f3,f4,f5⟩:=hf it (by simp)
  exact wpAny_pyNext_ascii_end (I.ok.hd hc) st (rqt hg) fun h' eb=>⟨rfl,I.turned (t':=s.toks) (fun b o hb e=>eb b o hb e) f0 f1 f3 f4 f5⟩
 self:=fun _ _ _ _ _ st h=>wpAny_pyIter_striter_ascii st h
theorem uql {P:Program}{w:World}{K:W.Frag}{tg:Expr}(it:Addr)(z:Str)(t:Tok):Turn P w K tg (Its z) [it] it (fun i h=>h.IsStrIter it "str_iterator" z t i) where
 mem:=by simp
 obj:=fun i h st b hb=>by
  have e:b=it:=by simpa using hb
  subst e
  obtain⟨o,e,c,d⟩:=st
  exact⟨o,e,fun v z=>by rw[d] at z;cases z⟩
 keep:=fun i h h' st k=>by
  obtain⟨o,e,r⟩:=st
  exact⟨o,k it (by simp) o e,r⟩
 item:=by
  intro X hP hw hK hc i ac s σ H E I hf st hg
  subst hP hw hK
  obtain⟨c,h1,h2⟩:=tqh (z:=z) (i:=i) hg
  obtain⟨f0,f1,f2,f3,f4,f5⟩:=hf it (by simp)
  refine wpAny_pyNext_wide_item st h1 fun h' ad sb=>?_
  have I1:Inv X ac σ H {s with heap:=h',toks:=s.toks+1}:=I.turned (t':=s.toks+1) (fun b o hb e=>(sb.2 b hb).trans e) f0 f1 f3 f4 f5
  obtain⟨o,e,cl,d⟩:=id ad
  exact⟨_,rfl,uqq (s:={ s with heap:=h',toks:=s.toks+1}) e cl d (by decide) ⟨.str ⟨#[c]⟩,H,I1,⟨_,rfl⟩,⟨rfl,c,h2,rfl⟩,ad,fun b hb=>(hf b hb).1⟩⟩
 done:=by
  intro X hP hw hK hc i ac s σ H E I hf st hg
  subst hP hw hK
  obtain⟨f0,f1,f2,f3,f4,f5⟩:=hf it (by simp)
  exact wpAny_pyNext_wide_end (I.ok.hd hc) st (rqt hg) fun h' eb=>⟨rfl,I.turned (t':=s.toks) (fun b o hb e=>eb b o hb e) f0 f1 f3 f4 f5⟩
 self:=fun _ _ _ _ _ st h=>wpAny_pyIter_striter_wide st h
section
variable {X:Cx}{tg:Expr}
def iStr (tl:TE):TI:=fun σ H R=>tl σ H fun x H1=>∃z,x=.str z∧R (Its z) H1
theorem wqy {l:Expr}{tl:TE}(hl:PE X l tl):PI X tg l (iStr tl):=by
 intro ac s σ H R I h
 refine thn (hl ac s σ H _ I h) fun v s1 W'=>?_
 obtain⟨x,H1,I1,r1,q1⟩:=W'
 obtain⟨z,rfl,q⟩:=q1
 obtain⟨t,rfl⟩:=r1
 have fp:∀b∈[s1.heap.objs.size],FpOk X ac H1 b:=fun b hb=>by
  have e:b=s1.heap.objs.size:=by simpa using hb
  subst e
  exact I1.fpOk (Nat.le_refl _) (I1.hok.fresh (Nat.le_refl _))
 cases ha:z.cps.all (· < 128)
 ·refine wpAny_pyIter_wide ha ?_
  exact⟨s1.heap.objs.size,[s1.heap.objs.size],_,_,H1,rfl,I1.kept (t':=s1.toks) fun b o e=>Heap.get?_push_of_some _ e,uql _ z t,⟨_,Heap.get?_push_size _ rfl,rfl,rfl⟩,fp,q⟩
 ·refine wpAny_pyIter_ascii ha ?_
  exact⟨s1.heap.objs.size,[s1.heap.objs.size],_,_,H1,rfl,I1.kept (t':=s1.toks) fun b o e=>Heap.get?_push_of_some _ e,tq6 _ z t,⟨_,Heap.get?_push_size _ rfl,rfl,rfl⟩,fp,q⟩
end
section
variable {X:Cx}
def rSlS:V->Option Int->Option Int->Hp->VK->Prop:=fun x lo hi H Q=>∃z,x=.str z∧z.length≤sizeLine∧Q (.str (Txt.slice z lo hi)) H
theorem zqz:SlR X rSlS:=by
 intro ac s σ H x v vl vu lo hi sl Q I rx hs pl pu h
 obtain⟨z,rfl,hz,q⟩:=h
 obtain⟨t,rfl⟩:=rx
 refine⟨"str",_,F.slot_str_getitem.lookup,typeIs_str _ _ _,?_⟩
 obtain⟨o,ho,hc,hd⟩:=hs
 cases pl with
 |none=>
  cases pu with
  |none=>exact wpAny_getItem_str_slice (l:=none) (u:=none) (st:=none) ⟨o,ho,hc,hd⟩ rfl (post_val_or_str ⟨Nat.le_trans (Txt.slice_le z none none) hz,fun t' k=>⟨.str (Txt.slice z none none),H,I.tok k,⟨t',rfl⟩,q⟩⟩)
  |int j uj=>exact wpAny_getItem_str_slice (l:=none) (u:=some (j,uj)) (st:=none) ⟨o,ho,hc,hd⟩ rfl (post_val_or_str ⟨Nat.le_trans (Txt.slice_le z none (some j)) hz,fun t' k=>⟨.str (Txt.slice z none (some j)),H,I.tok k,⟨t',rfl⟩,q⟩⟩)
 |int i ui=>
  cases pu with
  |none=>exact wpAny_getItem_str_slice (l:=some (i,ui)) (u:=none) (st:=none) ⟨o,ho,hc,hd⟩ rfl (post_val_or_str ⟨Nat.le_trans (Txt.slice_le z (some i) none) hz,fun t' k=>⟨.str (Txt.slice z (some i) none),H,I.tok k,⟨t',rfl⟩,q⟩⟩)
  |int j uj=>exact wpAny_getItem_str_slice (l:=some (i,ui)) (u:=some (j,uj)) (st:=none) ⟨o,ho,hc,hd⟩ rfl (post_val_or_str ⟨Nat.le_trans (Txt.slice_le z (some i) (some j)) hz,fun t' k=>⟨.str (Txt.slice z (some i) (some j)),H,I.tok k,⟨t',rfl⟩,q⟩⟩)
def rSl (K:W.Frag):V->Option Int->Option Int->Hp->VK->Prop:=fun x lo hi H Q=>rSlL K x lo hi H Q∨rSlS x lo hi H Q
def zqY:SlR X (rSl X.K):=tqW.or zqz
def rIndex:V->List V->Hp->VK->Prop:=fun x vs H Q=>match x,vs with
 |.str z,[.str y]=>∃i r,Builtin.Str.occurrences z y 0 z.length 1=i::r∧Q (.int (i:Nat)) H
 |_,_=>False
def uq1 {z y:Str}{H:Hp}{Q:VK}:(rIndex (.str z) [.str y] H Q)=(∃i r,Builtin.Str.occurrences z y 0 z.length 1=i::r∧Q (.int (i:Nat)) H):=rfl
def qqz:MtR X "str.index" rIndex:=by
 intro pins s σ H x vs v us Q I rx rv h
 unfold rIndex at h
 split at h
 rotate_left
 ·exact h.elim
 rename_i z y
 obtain⟨i,r,ho,q⟩:=h
 obtain⟨t,rfl⟩:=rx
 obtain⟨u,rfl,t',rfl⟩:=vals1 rv
 exact SC.index ho ⟨.int (i:Nat),H,I.tok _,⟨_,rfl⟩,q⟩
def notTooLong {n:Nat}(h:n≤1000000):Builtin.Str.tooLong n=false:=by
 unfold Builtin.Str.tooLong
 rw[sizeLine_eq]
 exact decide_eq_false (by lia)
def rUpper:V->List V->Hp->VK->Prop:=fun x vs H Q=>match x,vs with
 |.str z,[]=>(∀c∈z.cps.toList,c < 128)∧z.length≤1000000∧Q (.str ⟨z.cps.map up1⟩) H
 |_,_=>False
def yq6 {z:Str}{H:Hp}{Q:VK}:(rUpper (.str z) [] H Q)=((∀c∈z.cps.toList,c < 128)∧z.length≤1000000∧Q (.str ⟨z.cps.map up1⟩) H):=rfl
def rLower:V->List V->Hp->VK->Prop:=fun x vs H Q=>match x,vs with
 |.str z,[]=>(∀c∈z.cps.toList,c < 128)∧z.length≤1000000∧Q (.str ⟨z.cps.map lo1⟩) H
 |_,_=>False
def Aqq {z:Str}{H:Hp}{Q:VK}:(rLower (.str z) [] H Q)=((∀c∈z.cps.toList,c < 128)∧z.length≤1000000∧Q (.str ⟨z.cps.map lo1⟩) H):=rfl
def rAlnum:V->List V->Hp->VK->Prop:=fun x vs H Q=>match x,vs with
 |.str z,[]=>Q (.bl (Txt.isalnum z)) H
 |_,_=>False
def zqc {z:Str}{H:Hp}{Q:VK}:(rAlnum (.str z) [] H Q)=(Q (.bl (Txt.isalnum z)) H):=rfl
theorem rqX {ys:List Str}:∀{us:List Value},Vals (ys.map V.str) us->StrsAre us ys:=by
 induction ys with
 |nil=>intro us r;rw[map_nil] at r;cases r;exact .nil
 |cons y ys ih=>
  intro us r
  rw[map_cons] at r
  cases r with
  |cons r1 r2=>
   obtain⟨t,e⟩:=r1
   subst e
   exact .cons y t (ih r2)
def rJoin (K:W.Frag):V->List V->Hp->VK->Prop:=fun x vs H Q=>∃z p ys,x=.str z∧vs=[.ref p]∧SqL K H p (ys.map V.str)∧(ys.map (·.length)).sum+ys.length * z.length≤16777216∧Q (.str (Txt.join z ys)) H
def xq4:MtR X "str.join" (rJoin X.K):=by
 intro pins s σ H x vs v us Q I rx rv h
 obtain⟨z,p,ys,rfl,rfl,hq,hz,q⟩:=h
 obtain⟨t,rfl⟩:=rx
 obtain⟨u,rfl,ru⟩:=vals1 rv
 cases ru
 obtain⟨its,r,pl,hl⟩:=I.list hq
 exact join_list pl.isList (by simpa using rqX r) hz fun t' k=>⟨.str (Txt.join z ys),H,I.tok k,⟨t',rfl⟩,q⟩
def rIsi (K:W.Frag):List V->Hp->VK->Prop:=fun vs H Q=>∃x T t b,vs=[x,.ty T]∧TyOf K H x t∧PySem.W.kitOne K t (.type T)=some b∧Q (.bl b) H
def uqL:CallR X (.builtin "isinstance") (rIsi X.K):=by
 intro pins s σ H xs us Q I r h
 obtain⟨x,T,t,b,rfl,ty,e,q⟩:=h
 obtain⟨u,v,rfl,ru,rv⟩:=vals2 r
 cases (show v=Value.type T from rv)
 exact tqV I ru ty e fun tk=>⟨.bl b,H,I.tok tk,rfl,q⟩
def rCatD:R2:=fun x y H Q=>∃a b xs ys,x=.ref a∧y=.ref b∧H a=some (.tup xs)∧H b=some (.tup ys)∧xs.length+ys.length≤sizeLine∧∀p H',Same H H'->H' p=some (.tup (xs++ys))->Q (.ref p) H'
theorem yqP:OpR X (binaryOp .Add) rCatD:=by
 intro ac s σ H x y v u Q I rx ry h
 obtain⟨a,b,xs,ys,rfl,rfl,ha,hb,hz,q⟩:=h
 by_cases hx:xs=[]
 ·subst hx
  cases rx
  cases ry
  obtain⟨ao,r1,p1,_⟩:=I.tuple (SqT.of ha)
  obtain⟨ad,r2,p2,_⟩:=I.tuple (SqT.of hb)
  cases r1
  obtain⟨⟨ap,dd,al,sl⟩,ho,hc,n,hd⟩:=id p1
  obtain⟨⟨am,aj,ah,ai⟩,ae,ag,n2,af⟩:=id p2
  simp only at hc hd ag af
  subst hc hd ag af
  exact concat_meets ⟨_,ho,rfl⟩ ⟨_,ae,rfl⟩ noFill_tuple_add seq_tuple_add PySem.F.slot_tuple_add PySem.F.entry_tuple_add (PySem.F.args_tuple_add_2 _ _)
   (tuple_addW0 a b ([]:List Value).toArray ad.toArray n n2 dd aj sl ai rfl) ⟨ho,ae,⟨.ref b,H,I,rfl,q b H (Same.refl _) hb⟩⟩
 ·refine wq5 ac s σ H _ _ v u Q I rx ry ⟨a,b,xs,ys,rfl,rfl,SqT.of ha,SqT.of hb,hx,hz,fun e=>q a H (Same.refl _) (by rw[e,append_nil];exact ha),fun _ p hp=>q p _ (fun b o e=>by rw[aqp (aqn e hp)];exact e) aqm⟩
def rAddU (K:W.Frag):R2:=fun x y H Q=>match x,y with
 |.int i,.int j=>Q (.int (i+j)) H
 |.str i,.str j=>i.length+j.length≤sizeLine∧Q (.str (i++j)) H
 |.ref a,.ref b=>(∃xs zs,H a=some (.lst xs)∧H b=some (.lst zs)∧xs.length+zs.length≤sizeLine∧∀p,H p=none->Q (.ref p) (upd H p (.lst (xs++zs)))) ∨
   (∃xs ys,H a=some (.tup xs)∧H b=some (.tup ys)∧xs.length+ys.length≤sizeLine∧∀p H',Same H H'->H' p=some (.tup (xs++ys))->Q (.ref p) H')
 |_,_=>False
theorem sqW:OpR X (binaryOp .Add) (rAddU X.K):=by
 intro ac s σ H x y v u Q I rx ry h
 cases x with
 |int i=>
  cases y with
  |int j=>exact Aqc ac s σ H _ _ v u Q I rx ry ⟨i,j,rfl,rfl,h⟩
  |_=>exact h.elim
 |str i=>
  cases y with
  |str j=>exact rqK ac s σ H _ _ v u Q I rx ry ⟨i,j,rfl,rfl,h.1,h.2⟩
  |_=>exact h.elim
 |ref a=>
  cases y with
  |ref b=>
   rcases h with⟨xs,zs,h1,h2,h3,h4⟩|⟨xs,ys,h1,h2,h3,h4⟩
   ·exact zq3 ac s σ H _ _ v u Q I rx ry ⟨a,b,xs,zs,rfl,rfl,h1,h2,h3,h4⟩
   ·exact yqP ac s σ H _ _ v u Q I rx ry ⟨a,b,xs,ys,rfl,rfl,h1,h2,h3,h4⟩
  |_=>exact h.elim
 |_=>exact h.elim
def Aql {K:W.Frag}{i j:Int}{H:Hp}{Q:VK}:(rAddU K (.int i) (.int j) H Q)=(Q (.int (i+j)) H):=rfl
def zqI {K:W.Frag}{i j:Str}{H:Hp}{Q:VK}:(rAddU K (.str i) (.str j) H Q)=(i.length+j.length≤sizeLine∧Q (.str (i++j)) H):=rfl
end
section
variable {X:Cx}
def rMulU:R2:=fun x y H Q=>match x,y with
 |.int i,.int j=>CMul i j∧Q (.int (i * j)) H
 |.str z,.int k=>MulOk z k∧Q (.str (Txt.mul z k)) H
 |_,_=>False
theorem eqj:OpR X (binaryOp .Mult) rMulU:=by
 intro ac s σ H x y v u Q I rx ry h
 cases x with
 |int i=>
  cases y with
  |int j=>exact Aqi ac s σ H _ _ v u Q I rx ry ⟨i,j,rfl,rfl,h.1,h.2⟩
  |_=>exact h.elim
 |str z=>
  cases y with
  |int k=>
   obtain⟨t,rfl⟩:=rx
   obtain⟨t',rfl⟩:=ry
   exact SB.mul h.1 fun t' k'=>⟨.str (Txt.mul z k),H,I.tok k',⟨t',rfl⟩,h.2⟩
  |_=>exact h.elim
 |_=>exact h.elim
def Aqy {i j:Int}{H:Hp}{Q:VK}:(rMulU (.int i) (.int j) H Q)=(CMul i j∧Q (.int (i * j)) H):=rfl
def Aqm {z:Str}{k:Int}{H:Hp}{Q:VK}:(rMulU (.str z) (.int k) H Q)=(MulOk z k∧Q (.str (Txt.mul z k)) H):=rfl
def rLenU (K:W.Frag):List V->Hp->VK->Prop:=fun xs H Q=>match xs with
 |[.str z]=>z.length≤sizeLine∧Q (.int z.length) H
 |[.ref p]=>∃ys,(SqL K H p ys∨SqT K H p ys)∧Q (.int ys.length) H
 |_=>False
def sqE:CallR X (.builtin "len") (rLenU X.K):=by
 intro pins s σ H xs us Q I r h
 unfold rLenU at h
 split at h
 ·exact pqk pins s σ H _ us Q I r ⟨_,rfl,h.1,h.2⟩
 ·obtain⟨ys,h1,h2⟩:=h
  exact oqo pins s σ H _ us Q I r ⟨_,ys,rfl,h1,h2⟩
 ·exact h.elim
def zqZ {K:W.Frag}{z:Str}{H:Hp}{Q:VK}:(rLenU K [.str z] H Q)=(z.length≤sizeLine∧Q (.int z.length) H):=rfl
def sqY {K:W.Frag}{p:Addr}{H:Hp}{Q:VK}:(rLenU K [.ref p] H Q)=(∃ys,(SqL K H p ys∨SqT K H p ys)∧Q (.int ys.length) H):=rfl
def rOrdU:List V->Hp->VK->Prop:=fun xs H Q=>match xs with
 |[.str z]=>z.length=1∧Q (.int (z.cps.getD 0 0:Nat)) H
 |_=>False
def tqx:CallR X (.builtin "ord") rOrdU:=by
 intro pins s σ H xs us Q I r h
 unfold rOrdU at h
 split at h
 ·exact vqq pins s σ H _ us Q I r ⟨_,rfl,h.1,h.2⟩
 ·exact h.elim
def yq9 {c:Nat}{H:Hp}{Q:VK}:rOrdU [.str ⟨#[c]⟩] H Q↔Q (.int (c:Nat)) H:=⟨fun h=>h.2,fun h=>⟨rfl,h⟩⟩
def sqQ:bootBuiltins "int"=some (.type "int"):=by decide +kernel
def mq4:bootBuiltins "str"=some (.type "str"):=by decide +kernel
def yqU:bootBuiltins "bool"=some (.type "bool"):=by decide +kernel
def fqK:bootBuiltins "tuple"=some (.type "tuple"):=by decide +kernel
def pq9:bootBuiltins "list"=some (.type "list"):=by decide +kernel
def uqD:bootBuiltins "ord"=some (.builtin "ord"):=by decide +kernel
def aq4:bootBuiltins "isinstance"=some (.builtin "isinstance"):=by decide +kernel
def rIntU:List V->Hp->VK->Prop:=fun xs H Q=>match xs with
 |[.int i]=>Q (.int i) H
 |[.bl k]=>Q (.int (if k then 1 else 0)) H
 |_=>False
def AqU {k:Bool}{H:Hp}{Q:VK}:(rIntU [.bl k] H Q)=(Q (.int (if k then 1 else 0)) H):=rfl
def rInU:R2:=fun x y H Q=>match x,y with
 |.str i,.str j=>Q (.bl (!(Builtin.Str.occurrences j i 0 j.length 1).isEmpty)) H
 |_,_=>False
theorem oqk:OpR X (compareOp .In) rInU:=by
 intro pins s σ H x y v u Q I rx ry h
 cases x with
 |str i=>
  cases y with
  |str j=>exact tqL pins s σ H _ _ v u Q I rx ry ⟨i,j,rfl,rfl,h⟩
  |_=>exact h.elim
 |_=>exact h.elim
def rNotInU:R2:=fun x y H Q=>match x,y with
 |.str i,.str j=>Q (.bl (!(!(Builtin.Str.occurrences j i 0 j.length 1).isEmpty))) H
 |_,_=>False
def zqf {c:Nat}{j:Str}{H:Hp}{Q:VK}:rInU (.str ⟨#[c]⟩) (.str j) H Q↔Q (.bl (decide (c∈j.cps.toList))) H:=by
 show Q (.bl (!(Builtin.Str.occurrences j ⟨#[c]⟩ 0 j.length 1).isEmpty)) H↔_
 rw[StrLaws.found_one]
def uqf {c:Nat}{j:Str}{H:Hp}{Q:VK}:rNotInU (.str ⟨#[c]⟩) (.str j) H Q↔Q (.bl (!decide (c∈j.cps.toList))) H:=by
 show Q (.bl (!(!(Builtin.Str.occurrences j ⟨#[c]⟩ 0 j.length 1).isEmpty))) H↔_
 rw[StrLaws.found_one]
def rIsN (neg:Bool):R2:=fun x y H Q=>y=.non∧Q (.bl (if neg then !decide (x=.non) else decide (x=.non))) H
def eqy:OpR X (compareOp .Is) (rIsN false):=fun pins s σ H x y v u Q I rx ry h=>zqN pins s σ H x y v u Q I rx ry h
def nqj:OpR X (compareOp .IsNot) (rIsN true):=fun pins s σ H x y v u Q I rx ry h=>xqk pins s σ H x y v u Q I rx ry h
def Aq0 {x:V}{H:Hp}{Q:VK}:rIsN false x .non H Q↔Q (.bl (decide (x=.non))) H:=⟨fun h=>h.2,fun h=>⟨rfl,h⟩⟩
def AqR {x:V}{H:Hp}{Q:VK}:rIsN true x .non H Q↔Q (.bl (!decide (x=.non))) H:=⟨fun h=>h.2,fun h=>⟨rfl,h⟩⟩
def kindV (x:V)(H:Hp):Option String:=match x with
 |.non=>some "NoneType"
 |.bl _=>some "bool"
 |.int _=>some "int"
 |.str _=>some "str"
 |.ref a=>match H a with
  |some (.lst _)=>some "list"
  |some (.tup _)=>some "tuple"
  |_=>none
 |_=>none
def subT (a b:String):Bool:=a == b || (a == "bool" && b == "int")
def yqI (K:W.Frag):∀a∈["NoneType","bool","int","str","list","tuple"],∀b∈["bool","int","str","list","tuple"],PySem.W.kitOne K (.type a) (.type b)=some (subT a b):=by
 intro a ha b hb
 simp only[mem_cons,not_mem_nil,or_false] at ha hb
 rcases ha with rfl|rfl|rfl|rfl|rfl|rfl <;> rcases hb with rfl|rfl|rfl|rfl|rfl <;> with_unfolding_all kernel_rfl
def rIsiU:List V->Hp->VK->Prop:=fun vs H Q=>match vs with
 |[x,.ty T]=>∃k,kindV x H=some k∧T∈["bool","int","str","list","tuple"]∧Q (.bl (subT k T)) H
 |_=>False
theorem eqo:CallR X (.builtin "isinstance") rIsiU:=by
 intro ac s σ H xs us Q I r h
 unfold rIsiU at h
 split at h
 ·rename_i x T
  obtain⟨k,hk,hT,q⟩:=h
  have ad:TyOf X.K H x (.type k)∧k∈["NoneType","bool","int","str","list","tuple"]:=by
   unfold kindV at hk
   split at hk
   ·cases hk;exact⟨.non,by decide⟩
   ·cases hk;exact⟨.bl _,by decide⟩
   ·cases hk;exact⟨.int _,by decide⟩
   ·cases hk;exact⟨.str _,by decide⟩
   ·split at hk
    ·rename_i e;cases hk;exact⟨.lst e,by decide⟩
    ·rename_i e;cases hk;exact⟨.tup e,by decide⟩
    ·cases hk
   ·cases hk
  exact uqL ac s σ H _ us Q I r ⟨x,T,.type k,subT k T,rfl,ad.1,yqI X.K k ad.2 T hT,q⟩
 ·exact h.elim
end
section
variable {σ:St}{H:Hp}{Q:VK}{D:Ends}{K:W.Frag}{ta tb te:TE}{tt tu:TT}{t u:TS}{aa ab:TA}{v x y:V}{r r':R2}
def Aqt {i:Nat}:(tVar i σ H Q)=(∃v,σ[i]?=some (some v)∧Q v H):=rfl
def rd_C:(tC v σ H Q)=(Q v H):=rfl
def sqC:(tSeq t u D σ H)=(t {D with nx:=u D} σ H):=rfl
def Aqs {g:TG}:(tAsg te g D σ H)=(te σ H fun x H1=>g x σ H1 D.nx):=rfl
def xq2 {i:Nat}{R:St->Hp->Prop}:(gName i v σ H R)=(R (σ.set i (some v)) H):=rfl
def zqs:(tIfS tt t u D σ H)=(tt σ H fun b H1=>if b=true then t D σ H1 else u D σ H1):=rfl
def xqa:(tNext D σ H)=(D.nx σ H):=rfl
def AqD:(tBreak D σ H)=(D.bk σ H):=rfl
def yq3:(tRet te D σ H)=(te σ H D.rt):=rfl
def xqh:(tDrop te D σ H)=(te σ H fun _ H1=>D.nx σ H1):=rfl
def AqJ:(tOp r ta tb σ H Q)=(ta σ H fun x H1=>tb σ H1 fun y H2=>r x y H2 Q):=rfl
def yqN {R:Bool->Hp->Prop}:(tTest te σ H R)=(te σ H fun x H'=>∃k,x=.bl k∧R k H'):=rfl
def rd_B {R:Bool->Hp->Prop}:(tB te σ H R)=(te σ H fun x H'=>∃k,x=.bl k∧R k H'):=rfl
def zqi {R:Bool->Hp->Prop}:(tAnd tt tu σ H R)=(tt σ H fun c H1=>if c=true then tu σ H1 R else R false H1):=rfl
def AqH {R:Bool->Hp->Prop}:(tOr tt tu σ H R)=(tt σ H fun c H1=>if c=true then R true H1 else tu σ H1 R):=rfl
def zqm {R:Bool->Hp->Prop}:(tNot tt σ H R)=(tt σ H fun c H1=>R (!c) H1):=rfl
def yqb:(tAndV ta tb σ H Q)=(ta σ H fun x H1=>∃c,x=.bl c∧if c=true then tb σ H1 Q else Q (.bl false) H1):=rfl
def zqK:(tOrV ta tb σ H Q)=(ta σ H fun x H1=>∃c,x=.bl c∧if c=true then Q (.bl true) H1 else tb σ H1 Q):=rfl
def yqC:(tNotV ta σ H Q)=(ta σ H fun x H1=>∃c,x=.bl c∧Q (.bl (!c)) H1):=rfl
def AqP:(tIf tt ta tb σ H Q)=(tt σ H fun c H1=>if c=true then ta σ H1 Q else tb σ H1 Q):=rfl
def vqc {tc:TE}:(tChain r r' ta tb tc σ H Q)=(ta σ H fun x H1=>tb σ H1 fun y H2=>r x y H2 fun z H3=>∃k,z=.bl k∧(if k=true then tc σ H3 fun w' H4=>r' y w' H4 Q else Q (.bl false) H3)):=rfl
def zqC {R:List V->Hp->Prop}:(tNil σ H R)=(R [] H):=rfl
def yqk {R:List V->Hp->Prop}:(tCons te aa σ H R)=(te σ H fun x H1=>aa σ H1 fun xs H2=>R (x::xs) H2):=rfl
def AqA:(tLst aa σ H Q)=(aa σ H fun xs H1=>xs.length≤sizeLine∧∀p,H1 p=none->Q (.ref p) (upd H1 p (.lst xs))):=rfl
def Aqx:(tTup aa σ H Q)=(aa σ H fun xs H1=>xs.length≤sizeLine∧∀p,H1 p=none->Q (.ref p) (upd H1 p (.tup xs))):=rfl
def wq3 {sp:Sp}{dvs:List V}{E:XK}:(tCall sp dvs E aa σ H Q)=(aa σ H fun vs H1=>sp (vs++dvs) H1 Q E):=rfl
def AqL {c:List V->Hp->VK->Prop}:(tCB c aa σ H Q)=(aa σ H fun vs H1=>c vs H1 Q):=rfl
def AqI {T:String}{m:V->List V->Hp->VK->Prop}:(tBM K T m te aa σ H Q)=(te σ H fun x H1=>tyV K T x H1∧aa σ H1 fun xs H2=>m x xs H2 Q):=rfl
def zqw {T:String}{m:V->List V->Hp->VK->Prop}:(tBM0 K T m te σ H Q)=(te σ H fun x H1=>tyV K T x H1∧m x [] H1 Q):=rfl
def AqV {m:V->Option Int->Option Int->Hp->VK->Prop}{tl th:TO}:(tSl m te tl th σ H Q)=(te σ H fun x H1=>tl σ H1 fun l H2=>th σ H2 fun u H3=>m x l u H3 Q):=rfl
def tqe {R:Option Int->Hp->Prop}:(tNoPart σ H R)=(R none H):=rfl
def yql {R:Option Int->Hp->Prop}:(tPart te σ H R)=(te σ H fun x H1=>∃i,x=.int i∧R (some i) H1):=rfl
def vqd {z:Str}:tyV K "str" (.str z) H↔True:=⟨fun _=>trivial,fun _=>rfl⟩
def rd_I {C:Int->Int->Prop}{g:Int->Int->V}{i j:Int}:rI C g (.int i) (.int j) H Q↔C i j∧Q (g i j) H:=
 ⟨fun⟨_,_,h1,h2,h3⟩=>by cases h1;cases h2;exact h3,fun h=>⟨i,j,rfl,rfl,h⟩⟩
def uqR {g:Int->Int->V}{i j:Int}:rI0 g (.int i) (.int j) H Q↔Q (g i j) H:=
 ⟨fun⟨_,_,h1,h2,h3⟩=>by cases h1;cases h2;exact h3,fun h=>⟨i,j,rfl,rfl,h⟩⟩
def xqz {i j:Int}:rEq (.int i) (.int j) H Q↔Q (.bl (decide (i=j))) H:=by
 unfold rEq scal;simp only[true_and,V.int.injEq]
def aq0 {i j:Str}:rEq (.str i) (.str j) H Q↔Q (.bl (decide (i=j))) H:=by
 unfold rEq scal;simp only[true_and,V.str.injEq]
def yqm {i j:Bool}:rEq (.bl i) (.bl j) H Q↔Q (.bl (decide (i=j))) H:=by
 unfold rEq scal;simp only[true_and,V.bl.injEq]
def uqx {i j:Int}:rNe (.int i) (.int j) H Q↔Q (.bl (!decide (i=j))) H:=by
 unfold rNe scal;simp only[true_and,V.int.injEq]
def nqY {i j:Str}:rNe (.str i) (.str j) H Q↔Q (.bl (!decide (i=j))) H:=by
 unfold rNe scal;simp only[true_and,V.str.injEq]
def xqb {i j:Bool}:rNe (.bl i) (.bl j) H Q↔Q (.bl (!decide (i=j))) H:=by
 unfold rNe scal;simp only[true_and,V.bl.injEq]
def wq0:rNe .non .non H Q↔Q (.bl false) H:=⟨fun h=>h.2,fun h=>⟨rfl,h⟩⟩
def yqW {i:Str}:rNe (.str i) .non H Q↔Q (.bl true) H:=⟨fun h=>h.2,fun h=>⟨rfl,h⟩⟩
def uqB {i:Str}:rNe .non (.str i) H Q↔Q (.bl true) H:=⟨fun h=>h.2,fun h=>⟨rfl,h⟩⟩
def xqw:rEq .non .non H Q↔Q (.bl true) H:=⟨fun h=>h.2,fun h=>⟨rfl,h⟩⟩
def xqC {i:Str}:rEq (.str i) .non H Q↔Q (.bl false) H:=⟨fun h=>h.2,fun h=>⟨rfl,h⟩⟩
def vqZ {i:Str}:rEq .non (.str i) H Q↔Q (.bl false) H:=⟨fun h=>h.2,fun h=>⟨rfl,h⟩⟩
def AqC {z:Str}{i:Int}:rIx K (.str z) (.int i) H Q↔∃c,z.length≤sizeLine∧atI z.cps.toList i=some c∧Q (.str ⟨#[c]⟩) H:=by
 constructor
 ·rintro (⟨p,xs,j,v,h,_⟩|⟨p,xs,j,v,h,_⟩|⟨z',j,c,h1,h2,h3,h4,h5⟩)
  ·cases h
  ·cases h
  ·cases h1;cases h2;exact⟨c,h3,h4,h5⟩
 ·rintro⟨c,h3,h4,h5⟩
  exact .inr (.inr ⟨z,i,c,rfl,rfl,h3,h4,h5⟩)
def zqR {z:Str}{lo hi:Option Int}:rSl K (.str z) lo hi H Q↔z.length≤sizeLine∧Q (.str (Txt.slice z lo hi)) H:=by
 constructor
 ·rintro (⟨a,xs,h,_⟩|⟨z',h1,h2,h3⟩)
  ·cases h
  ·cases h1;exact⟨h2,h3⟩
 ·rintro⟨h2,h3⟩
  exact .inr ⟨z,rfl,h2,h3⟩
end
section
variable {σ:St}{H:Hp}{Q:VK}{K:W.Frag}
def zq1 {a:Addr}{lo hi:Option Int}:rSl K (.ref a) lo hi H Q↔∃xs,SqL K H a xs∧∀p,H p=none->Q (.ref p) (upd H p (.lst (cutV xs lo hi))):=by
 constructor
 ·rintro (⟨a',xs,h,h2⟩|⟨z',h1,_⟩)
  ·cases h;exact⟨xs,h2⟩
  ·cases h1
 ·rintro⟨xs,h2⟩
  exact .inl ⟨a,xs,rfl,h2⟩
def uqt {p:Addr}{i:Int}:rIx K (.ref p) (.int i) H Q↔∃xs v,(SqL K H p xs∨SqT K H p xs)∧atI xs i=some v∧Q v H:=by
 constructor
 ·rintro (⟨p',xs,j,v,h,h2,h3,h4⟩|⟨p',xs,j,v,h,h2,h3,h4⟩|⟨z',j,c,h1,_⟩)
  ·cases h;cases h2;exact⟨xs,v,.inl h3,h4⟩
  ·cases h;cases h2;exact⟨xs,v,.inr h3,h4⟩
  ·cases h1
 ·rintro⟨xs,v,h|h,h2⟩
  ·exact .inl ⟨p,xs,i,v,rfl,rfl,h,h2⟩
  ·exact .inr (.inl ⟨p,xs,i,v,rfl,rfl,h,h2⟩)
def zqx {a b:Addr}:rAddU K (.ref a) (.ref b) H Q↔(∃xs zs,H a=some (.lst xs)∧H b=some (.lst zs)∧xs.length+zs.length≤sizeLine∧∀p,H p=none->Q (.ref p) (upd H p (.lst (xs++zs)))) ∨
   (∃xs ys,H a=some (.tup xs)∧H b=some (.tup ys)∧xs.length+ys.length≤sizeLine∧∀p H',Same H H'->H' p=some (.tup (xs++ys))->Q (.ref p) H'):=Iff.rfl
def cx_K {CX:CXT}{P:Program}{w:World}{mg:Str->Option Value}{base:Heap}{N:List Str}{qual:Str}{scope:Scope}{f:Addr}{cd:Value}{A:Around}{outer:List Env}{s:Shared}{E:XK} :
  (cxOf CX P w K mg base N qual scope f cd A outer s H E).K=K:=rfl
end
def LoopI (J:It)(g:TG)(tb:TS)(D:Ends)(σ:St)(H:Hp):Prop:=∃W:Nat->Nat->St->Hp->Prop,(∃m,W 0 m σ H)∧∀i m σ H,W i m σ H ->
 (J.stop i H∧D.nx σ H)∨(J.go i H∧∃N:St->Hp->Prop,(∀σ' H',N σ' H'->∃m',m' < m∧W (i+1) m' σ' H')∧∀x H',J.yld i H x H'->g x σ H' fun σ2 H2=>tb {D with nx:=N,ct:=N,bk:=D.nx} σ2 H2)
section
variable {σ:St}{H:Hp}{D:Ends}{K:W.Frag}{te:TE}{g:TG}{tb:TS}{aa:TA}
def xqy:(tFor (iStr te) g tb D σ H)=(te σ H fun x H1=>∃z,x=.str z∧LoopI (Its z) g tb D σ H1):=rfl
def xq3:(tFor (iList K te) g tb D σ H)=(te σ H fun x H1=>∃a,x=.ref a∧(∃xs,SqL K H1 a xs)∧LoopI (Itl K a) g tb D σ H1):=rfl
def wqO:(tFor (iRng1 aa) g tb D σ H)=(aa σ H fun vs H1=>∃j:Int,vs=[.int j]∧-(2 ^ 62)≤j∧j < 2 ^ 62∧LoopI (Itr 0 j.toNat) g tb D σ H1):=rfl
def pqq {a:Addr}{xs:List V}(Pv:Nat->St->Hp->Prop)(h0:Pv 0 σ H)(hl:∀i σ H,i≤xs.length->Pv i σ H->SqL K H a xs)
  (hs:∀i x σ H,xs[i]?=some x->Pv i σ H->g x σ H fun σ2 H2=>tb {D with nx:=Pv (i+1),ct:=Pv (i+1),bk:=D.nx} σ2 H2) (hd:∀σ H,Pv xs.length σ H->D.nx σ H):LoopI (Itl K a) g tb D σ H:=vq5 Pv h0 hl hs hd
def fqm {lo:Int}{n:Nat}(Pv:Nat->St->Hp->Prop)(h0:Pv 0 σ H)
  (hs:∀i σ H,i < n->Pv i σ H->g (.int (lo+i)) σ H fun σ2 H2=>tb {D with nx:=Pv (i+1),ct:=Pv (i+1),bk:=D.nx} σ2 H2) (hd:∀σ H,Pv n σ H->D.nx σ H):LoopI (Itr lo n) g tb D σ H:=uqz Pv h0 hs hd
end
section
variable {prog:Program}{w:World}{A:Around}{R:Result->Shared->Prop}{s:Shared}
theorem kqr {elt target iter:Expr}{ifs:List Expr}{scope:Scope}{pos:Pos}{it acc:Value}{env:Env}(I:Nat->Shared->Prop)
  (turn:∀n s,I n s->wpAny (model prog w) A (pyNext it) (fun r s₁=>match r with
   |none=>R (.ok .next) s₁
   |some v=>wpAny (model prog w) A (letOwnedTupleGo target it v) (fun _ s₁'=>wpAny (model prog w) A (assign target env v) (fun _ s₂=>
     wpAny (model prog w) A (forIn ifs true fun c r=>if r=true then do let ok <- isTrue c env (eval c env);pure (ForInStep.yield ok) else pure (ForInStep.yield r)) (fun ok s₃=>
      if ok=true then wpAny (model prog w) A (eval elt env) (fun x s₄=>
       wpAny (model prog w) A (call (.builtin "list.append") [acc,x]) (fun _ s₅=>∃m,m < n∧I m s₅) (fun _ _=>False) s₄) (fun _ _=>False) s₃
      else ∃m,m < n∧I m s₃) (fun _ _=>False) s₂) (fun _ _=>False) s₁') (fun _ _=>False) s₁) (fun _ _=>False) s)
  (n:Nat) (h:I n s):codeAny (model prog w) A (.compLoop (.ListComp elt [⟨target,iter,ifs,0⟩] scope pos) 0 it acc env) R s:=by
 refine codeAny_loop rfl I (fun n s hI=>?_) n h
 show wpAny _ A ((compTurn (.ListComp elt [⟨target,iter,ifs,0⟩] scope pos) 0 it acc env).onRaise (fun x=>do noteFrame x env;theTreesLotGoes x)) _ _ s
 refine wpAny_noted ?_
 rw[compTurn_list]
 refine wpAny_bind (wpAny_standAt (wpAny_bind (wpAny_mono (turn n s hI) (fun r s₁ h₁=>?_) fun _ _ h'=>h'.elim)))
 cases r with
 |none=>exact wpAny_pure h₁
 |some v=>
  refine wpAny_bind (wpAny_mono h₁ (fun _ s₁' ac=>wpAny_bind (wpAny_mono ac (fun _ s₂ h₂=>wpAny_bind (wpAny_mono h₂ (fun ok s₃ h₃=>?_) fun _ _ h'=>h'.elim)) fun _ _ h'=>h'.elim)) fun _ _ h'=>h'.elim)
  cases ok with
  |false=>exact wpAny_pure ⟨rfl,h₃⟩
  |true=>
   exact wpAny_bind (wpAny_bind (wpAny_mono h₃ (fun x s₄ h₄=>wpAny_bind (wpAny_mono h₄ (fun _ s₅ h₅=>wpAny_pure (wpAny_pure ⟨rfl,h₅⟩)) fun _ _ h'=>h'.elim)) fun _ _ h'=>h'.elim))
end
def compCx (X:Cx)(N':List Str)(scope:Scope)(cl:List (Str×Addr))(s:Shared)(H:Hp)(fp:List Addr):Cx:=
 { X with N:=N',s₀:=s,H₀:=H,env:=compEnvC scope cl s.heap.objs.size X.env,outer:=X.stack,stack:=X.stack,ex:=fp,fn:=fun _=>false,pn:=[],xe:=fun _ _=>False}
inductive Frees (X:Cx)(rs:Scope)(cl:List (Str×Addr)):List Str->List Nat->Prop where
 |nil:Frees X rs cl [] []
 |cons {y:Str}{i:Nat}{fx:List Str}{fr:List Nat} (h1:X.N[i]?=some y) (h2:X.env.kindOf y=some .cell) (h3:rs.names.lookup y=some .cell) (h4:cl.lookup y=X.env.cells.lookup y) (r:Frees X rs cl fx fr):Frees X rs cl (y::fx) (i::fr)
def frV (σ:St)(fr:List Nat):St:=fr.map fun i=>(σ[i]?).getD none
theorem Frees.len {X:Cx}{rs:Scope}{cl:List (Str×Addr)}{fx:List Str}{fr:List Nat}(F:Frees X rs cl fx fr):fr.length=fx.length:=by
 induction F with
 |nil=>rfl
 |cons _ _ _ _ _ ih=>simp[ih]
theorem Frees.at {X:Cx}{rs:Scope}{cl:List (Str×Addr)}{σ:St}:∀{fx:List Str}{fr:List Nat},Frees X rs cl fx fr->∀(j:Nat) (y:Str) (v:V),fx[j]?=some y->(frV σ fr)[j]?=some (some v) ->
  ∃i:Nat,X.N[i]?=some y∧σ[i]?=some (some v)∧X.env.kindOf y=some .cell∧rs.names.lookup y=some .cell∧cl.lookup y=X.env.cells.lookup y
 |_,_,.nil,j,y,v,h,_=>by simp at h
 |_,_,.cons (y:=z) (i:=i) h1 h2 h3 h4 r,0,y,v,h,hv=>by
  simp only[List.getElem?_cons_zero,Option.some.injEq] at h
  subst h
  simp only[frV,map_cons,List.getElem?_cons_zero,Option.some.injEq] at hv
  refine⟨i,h1,?_,h2,h3,h4⟩
  cases e:σ[i]? with
  |none=>rw[e] at hv;cases hv
  |some o=>rw[e] at hv;exact congrArg some hv
 |_,_,.cons h1 h2 h3 h4 r,j+1,y,v,h,hv=>by
  simp only[List.getElem?_cons_succ] at h
  simp only[frV,map_cons,List.getElem?_cons_succ] at hv
  exact r.at j y v h hv
theorem Frees.mem {X:Cx}{rs:Scope}{cl:List (Str×Addr)}:∀{fx:List Str}{fr:List Nat},Frees X rs cl fx fr->∀y∈fx,X.env.kindOf y=some .cell∧cl.lookup y=X.env.cells.lookup y
 |_,_,.nil,y,h=>by simp at h
 |_,_,.cons h1 h2 h3 h4 r,y,h=>by
  rcases mem_cons.mp h with rfl|h
  ·exact⟨h2,h4⟩
  ·exact r.mem y h
section
variable {X:Cx}{pins:List (Addr×Obj)}{σ:St}{H1:Hp}{s3:Shared}{x:Str}{fx:List Str}{fr:List Nat}{scope:Scope}{cl:List (Str×Addr)}{fp:List Addr}
theorem yqo (I:Inv X pins σ H1 s3)(hkind:scope.kind=.function)(hcl:∀y c,cl.lookup y=some c->X.env.cells.lookup y=some c)
  (F:Frees X (relabel scope X.env) cl fx fr) (hfx:((relabel scope X.env).names.all fun p=>if (p.2 == .cell || p.2 == .free) then fx.contains p.1 else true)=true)
  (ffp:∀b∈fp,FpOk X pins H1 b) (flt:∀b∈fp,b < s3.heap.objs.size):(compCx X (x::fx) scope cl s3 H1 fp).Ok where
 mod:=I.ok.mod
 kind:=hkind
 glob:=I.ok.glob
 blt:=I.ok.blt
 above:=Nat.le_refl _
 inj:=fun y z c h1 h2=>I.ok.inj y z c (hcl y c h1) (hcl z c h2)
 has:=fun y h=>by
  have h:(relabel scope X.env).names.lookup y=some .cell∨(relabel scope X.env).names.lookup y=some .free:=h
  have key:y∈fx:=by
   rcases h with h|h
   ·have q:=all_eq_true.mp hfx _ (PySem.mem_of_lookup h)
    simpa using q
   ·have q:=all_eq_true.mp hfx _ (PySem.mem_of_lookup h)
    simpa using q
  obtain⟨k1,k2⟩:=F.mem y key
  obtain⟨c,e⟩:=I.ok.has y (.inl k1)
  exact⟨c,k2.trans e⟩
 cab:=fun y c h=>by cases (show false=true from h)
 hd:=I.ok.hd
 frames:=I.ok.frames
 stk:=.inl rfl
 exf:=fun b hb=>⟨Nat.ne_of_lt (flt b hb),fun y c e=>(ffp b hb).2.2.2.2.1 y c (hcl y c e)⟩
 bs:=I.bs
 bsz:=Nat.le_trans I.ok.bsz I.sz
 noex:=fun b o e hb=>by
  rcases (ffp b hb).2.2.2.1 with z|z
  ·exact I.ok.noex b o e z
  ·exact absurd (Nat.lt_of_lt_of_le (Heap.lt_size (I.ok.bs b o e).1) z) (Nat.lt_irrefl _)
 exfs:=fun b hb z=>by
  rcases mem_cons.mp (I.stkSub b z) with q|q
  ·exact (ffp b hb).2.1 q
  ·exact (ffp b hb).2.2.1 q
 funs:=I.stack
 frf:=I.stkFree
theorem rq9 (I:Inv X pins σ H1 s3)(hkind:scope.kind=.function)(hcl:∀y c,cl.lookup y=some c->X.env.cells.lookup y=some c)
  (F:Frees X (relabel scope X.env) cl fx fr) (hfx:((relabel scope X.env).names.all fun p=>if (p.2 == .cell || p.2 == .free) then fx.contains p.1 else true)=true)
  (ffp:∀b∈fp,FpOk X pins H1 b) (flt:∀b∈fp,b < s3.heap.objs.size) {h1:Heap}{t:Nat}{m:Str->Option Value} (hn:h1.Ns s3.heap.objs.size m)
  (keep:∀b u,s3.heap.get? b=some u->h1.get? b=some u):Inv (compCx X (x::fx) scope cl s3 H1 fp) [] (none::frV σ fr) H1 {s3 with heap:=h1,toks:=t}:=by
 refine⟨yqo I hkind hcl F hfx ffp flt,rfl,I.bare,Un.kept keep,⟨m,hn,fun i y v e1 e2 e3=>?_⟩,fun y c e=>?_,I.hok.fresh (Nat.le_refl _),fun y c e=>I.freeC y c (hcl y c e),fun p hp=>absurd (show p∈([]:List (Addr×Obj)) from hp) (by simp),I.hok.kept keep,?_⟩
 ·cases i with
  |zero=>simp at e2
  |succ j=>
   obtain⟨i0,k1,k2,k3,k4,k5⟩:=F.at (σ:=σ) j y v (by simpa [compCx] using e1) (by simpa using e2)
   obtain⟨m0,ad,ac⟩:=I.loc
   obtain⟨u,r,l⟩:=ac i0 y v k1 k2 (.inr (.inl k3))
   refine⟨u,r,?_⟩
   rcases l with⟨z,_⟩|⟨_,c,e,o,ho,hd⟩
   ·rw[k3] at z;cases z
   ·exact .inr ⟨.inl k4,c,k5.trans e,o,keep c o ho,hd⟩
 ·obtain⟨v,o,ho,hd⟩:=I.cell y c (hcl y c e)
  exact⟨v,o,keep c o ho,hd⟩
 ·show (none::frV σ fr).length=(x::fx).length
  simp[frV,F.len]
theorem lq1 {N':List Str}{pins':List (Addr×Obj)}{σ':St}{H2:Hp}{s':Shared}{h':Heap}(I:Inv X pins σ H1 s3)(J:Inv (compCx X N' scope cl s3 H1 fp) pins' σ' H2 s')(ffp:∀b∈fp,FpOk X pins H1 b)
  (sb:Heap.SameBut s3.heap.objs.size s'.heap h'):Inv X pins σ H2 {s' with heap:=h' }:=by
 have k:∀b u,b≠s3.heap.objs.size->s'.heap.get? b=some u->h'.get? b=some u:=fun b u hb e=>sb.extBut b u hb e
 have lt:∀b u,s3.heap.get? b=some u->b≠s3.heap.objs.size:=fun b u e=>Nat.ne_of_lt (Heap.lt_size e)
 have u:Un (frs X.stack) fp H1 H2 s3.heap s'.heap:=J.base
 have u':Un (frs X.stack) fp H1 H2 s3.heap h':=
  ⟨fun b o q n hb hx=>k b o (lt b o q) (u.keep b o q n hb hx),fun b o q n hb hx=>by
    obtain⟨sl,e⟩:=u.slot b o q n hb hx
    exact⟨sl,k b _ (lt b o q) e⟩,u.free,fun b o q hx=>by
    obtain⟨o',e⟩:=u.there b o q hx
    exact⟨o',k b _ (lt b o q) e⟩,u.tups,u.frzs,u.tbls⟩
 have nC:H2 s3.heap.objs.size=none:=J.free
 have ad:HOk X.prog X.w H2 h':=fun b uo e=>by
  refine (J.hok b uo e).stay (fun c v hc q=>k c v ?_ q) (fun _ q=>q) fun _ _ q=>q
  rintro rfl
  rcases hc with z|z
  ·rw[<- z,nC] at e;cases e
  ·rw[nC] at z;cases z
 have os:s'.os=s3.os:=J.os
 have ae:=J.bare
 obtain⟨hh,g,d,t,ac⟩:=s'
 obtain rfl:ac=s3.os:=os
 have af:=I.call (h':=h') (g':=g) (d':=d) (t':=t) (ch:=fp) u' ad ae fun b hb=>by
  obtain⟨f0,f1,f2,f3,f4,f5⟩:=ffp b hb
  exact⟨f3,f1,f4,f5⟩
 exact af
end
def PF (X:Cx)(ifs:List Expr)(t:TT):Prop:=
 ∀(pins:List (Addr×Obj)) (s:Shared) (σ:St) (H:Hp) (Q:Bool->Hp->Prop),Inv X pins σ H s->t σ H Q ->
  wpAny (model X.prog X.w) X.A (forIn ifs true fun c r=>if r=true then do let ok <- isTrue c X.env (eval c X.env);pure (ForInStep.yield ok) else pure (ForInStep.yield r)) (TP X pins σ Q) X.xe s
def tYes:TT:=fun _ H Q=>Q true H
def mqJ {X:Cx}:PF X [] tYes:=fun _ _ _ H _ I h=>wpAny_tests_nil ⟨H,I,h⟩
def sqX {X:Cx}{c:Expr}{t:TT}(h:PT X c t):PF X [c] t:=fun pins s σ H Q I q=>wpAny_tests_one (h pins s σ H Q I q)
def CompI (J:It)(p:Addr)(fv:St)(tt:TT)(te:TE)(Q:VK)(H1:Hp):Prop:=
 ∃W:Nat->Nat->List V->Hp->Prop,(∃m,W 0 m [] (upd H1 p (.lst [])))∧∀i m ys H2,W i m ys H2->H2 p=some (.lst ys) ∧
  ((J.stop i H2∧Q (.ref p) H2)∨(J.go i H2∧ys.length < sizeLine∧∀x H3,J.yld i H2 x H3->tt (some x::fv) H3 fun b H4=>
   if b=true then te (some x::fv) H4 fun y H5=>H5 p=some (.lst ys)∧∃m',m' < m∧W (i+1) m' (ys++[y]) (upd H5 p (.lst (ys++[y])))
   else ∃m',m' < m∧W (i+1) m' ys H4))
def tComp (wi:TI)(fr:List Nat)(tt:TT)(te:TE):TE:=fun σ H Q=>wi σ H fun J H1=>∀p,H1 p=none->CompI J p (frV σ fr) tt te Q H1
section
variable {X:Cx}{elt iter:Expr}{x:Str}{px pos:Pos}{ifs:List Expr}{scope:Scope}{cl:List (Str×Addr)}{fx:List Str}{fr:List Nat}{wi:TI}{tt:TT}{te:TE}
theorem rqQ {pins:List (Addr×Obj)}{σ:St}{H3:Hp}{s3:Shared}{it p:Addr}{fp:List Addr}{tn:Nat->Heap->Prop}{J:It}{Q:VK}{W:Nat->Nat->List V->Hp->Prop}{m0 t:Nat}{h₁:Heap}{m:Str->Option Value}{RR:Result->Shared->Prop}
  (hc:X.calm=true) (hkind:scope.kind=.function) (hx:scope.names.lookup x=some .local) (hnd:(x::fx).Nodup)
  (hcl:∀y c,cl.lookup y=some c->X.env.cells.lookup y=some c) (F:Frees X (relabel scope X.env) cl fx fr)
  (hfx:((relabel scope X.env).names.all fun p=>if (p.2 == .cell || p.2 == .free) then fx.contains p.1 else true)=true)
  (ht:∀s H fp,PF (compCx X (x::fx) scope cl s H fp) ifs tt) (he:∀s H fp,PE (compCx X (x::fx) scope cl s H fp) elt te)
  (I3:Inv X pins σ H3 s3) (T:Turn X.prog X.w X.K (.Name x px) J fp it tn) (st3:tn 0 s3.heap) (ffp:∀b∈fp,FpOk X pins H3 b) (flt3:∀b∈fp,b < s3.heap.objs.size)
  (w0:W 0 m0 [] H3) (turn:∀i m ys H2,W i m ys H2->H2 p=some (.lst ys) ∧
   ((J.stop i H2∧Q (.ref p) H2)∨(J.go i H2∧ys.length < sizeLine∧∀x H3,J.yld i H2 x H3->tt (some x::frV σ fr) H3 fun b H4=>
    if b=true then te (some x::frV σ fr) H4 fun y H5=>H5 p=some (.lst ys)∧∃m',m' < m∧W (i+1) m' (ys++[y]) (upd H5 p (.lst (ys++[y])))
    else ∃m',m' < m∧W (i+1) m' ys H4)))
  (hns:h₁.Ns s3.heap.objs.size m) (keep1:∀b u,s3.heap.get? b=some u->h₁.get? b=some u)
  (fin:∀s6 H5 o,Inv (compCx X (x::fx) scope cl s3 H3 fp) [] (o::frV σ fr) H5 s6->Q (.ref p) H5->RR (.ok .next) s6) :
  codeAny (model X.prog X.w) X.A (.compStart (.ListComp elt [⟨.Name x px,iter,ifs,0⟩] scope pos) 0 (.ref it) (.ref p) (compEnvC scope cl s3.heap.objs.size X.env))
   RR {s3 with heap:=h₁,toks:=t}:=by
 have I4:=rq9 (x:=x) (t:=t) I3 hkind hcl F hfx ffp flt3 hns keep1
 have ap:tn 0 h₁:=T.keep _ _ _ st3 fun b hb o e=>keep1 b o e
 have bd:∀b∈fp,H3 b=none:=fun b hb=>(ffp b hb).1
 have af:(compCx X (x::fx) scope cl s3 H3 fp).calm=true:=hc
 have ad:∀{H':Hp},(∀b∈fp,H' b=none)->∀b∈fp,FpOk (compCx X (x::fx) scope cl s3 H3 fp) [] H' b:=fun {H'} hn b hb=>by
  obtain⟨f0,f1,f2,f3,f4,f5⟩:=ffp b hb
  exact⟨hn b hb,Nat.ne_of_lt (flt3 b hb),I4.ok.exfs b hb,.inl hb,fun y c e=>f4 y c (hcl y c e),fun q hq=>absurd (show q∈([]:List (Addr×Obj)) from hq) (by simp)⟩
 have aq:(relabel scope X.env).names.lookup x=some .local:=lookup_relabel_local hx
 have pg:PG (compCx X (x::fx) scope cl s3 H3 fp) (.Name x px) (gName 0):=aqX (i:=0) hnd rfl (.inl aq) (.inr aq)
 have ae:codeAny (model X.prog X.w) X.A (.compLoop (.ListComp elt [⟨.Name x px,iter,ifs,0⟩] scope pos) 0 (.ref it) (.ref p) (compEnvC scope cl s3.heap.objs.size X.env))
    RR {s3 with heap:=h₁,toks:=t}:=by
  refine kqr (fun n s'=>∃i ys H' o,Inv (compCx X (x::fx) scope cl s3 H3 fp) [] (o::frV σ fr) H' s'∧tn i s'.heap∧(∀b∈fp,H' b=none)∧W i n ys H') ?_ m0 ⟨0,[],_,none,I4,ap,bd,w0⟩
  rintro n s5 ⟨i,ys,H5,o,I5,ao,ar,w5⟩
  obtain⟨bj,bg⟩:=turn i n ys H5 w5
  rcases bg with⟨stop,qn⟩|⟨go,al,ah⟩
  ·refine thn (T.done (compCx X (x::fx) scope cl s3 H3 fp) rfl rfl rfl af i [] s5 (o::frV σ fr) H5 _ I5 (ad ar) ao stop) fun r s6 W'=>?_
   obtain⟨hr,I6⟩:=W'
   subst hr
   exact fin s6 H5 o I6 qn
  ·refine thn (T.item (compCx X (x::fx) scope cl s3 H3 fp) rfl rfl rfl af i [] s5 (o::frV σ fr) H5 _ I5 (ad ar) ao go) fun r s6 W'=>?_
   obtain⟨u,hr,h6⟩:=W'
   subst hr
   refine thn h6 fun _ s7 W'=>?_
   obtain⟨y7,H7,I7,r7,av,ai,bc⟩:=W'
   have bn:=I7.pinned (ad bc) (T.obj _ _ ai)
   have ac:∀{σ':St}{H':Hp}{s':Shared},Inv (compCx X (x::fx) scope cl s3 H3 fp) ([]++pinsAt fp s7.heap) σ' H' s'->tn (i+1) s'.heap∧∀b∈fp,H' b=none:=fun {σ' H' s'} I'=>by
    refine⟨T.keep _ _ _ ai fun b hb o e=>(I'.pin (b,o) (mem_append_right _ (mem_append_right _ (eqb hb e)))).1,fun b hb=>?_⟩
    obtain⟨o,e,d⟩:=T.obj _ _ ai b hb
    exact (I'.pin (b,o) (mem_append_right _ (mem_append_right _ (eqb hb e)))).2.1
   refine thn (pg _ s7 _ H7 y7 u (fun σ' H'=>σ'=some y7::frV σ fr∧H'=H7) bn r7 ⟨rfl,rfl⟩) fun _ s8 W'=>?_
   obtain⟨σ8,H8,I8,e8,be⟩:=W'
   subst e8 be
   refine thn (ht s3 H3 fp _ s8 _ _ _ I8 (ah y7 _ av)) fun b s9 W'=>?_
   obtain⟨H9,I9,q9⟩:=W'
   cases b with
   |false=>
    rw[if_neg Bool.false_ne_true] at q9 ⊢
    obtain⟨m',hm,w9⟩:=q9
    exact⟨m',hm,i+1,ys,H9,some y7,I9.unpinned,(ac I9).1,(ac I9).2,w9⟩
   |true=>
    rw[if_pos rfl] at q9 ⊢
    refine thn (he s3 H3 fp _ s9 _ H9 _ I9 q9) fun ax ay W'=>?_
    obtain⟨ag,au,bh,az,aj,m',hm,aw⟩:=W'
    refine thn (bqu _ ay _ au (.ref p) [ag] (.ref p) [ax] (fun _ H'=>H'=upd au p (.lst (ys++[ag]))) bh rfl (.cons az .nil) ⟨p,ys,ag,rfl,rfl,aj,al,rfl⟩) fun _ bi W'=>?_
    obtain⟨_,bo,am,_,bf⟩:=W'
    subst bf
    exact⟨m',hm,i+1,ys++[ag],_,some y7,am.unpinned,(ac am).1,(ac am).2,aw⟩
 exact codeAny_compStart_list ae (T.self _ 0 _ _ _ ap ae)
theorem iqk (hc:X.calm=true)(hclos:closureFor scope X.env=pure cl)(hcell:∀y∈scope.names,y.2≠.cell)(hkind:scope.kind=.function)
  (hnames:∀y∈scope.names,y.2=.local->scope.names.lookup y.1=some .local) (hx:scope.names.lookup x=some .local) (hnd:(x::fx).Nodup)
  (hk:(cl.all fun q=>fx.contains q.1)=true) (F:Frees X (relabel scope X.env) cl fx fr)
  (hfx:((relabel scope X.env).names.all fun p=>if (p.2 == .cell || p.2 == .free) then fx.contains p.1 else true)=true)
  (hi:PI X (.Name x px) iter wi) (ht:∀s H fp,PF (compCx X (x::fx) scope cl s H fp) ifs tt) (he:∀s H fp,PE (compCx X (x::fx) scope cl s H fp) elt te)
  (hs:∀x,foldedSetIterable iter X.env x=pure x:=by intro _;rfl) :
  PE X (.ListComp elt [⟨.Name x px,iter,ifs,0⟩] scope pos) (tComp wi fr tt te):=by
 intro ac s σ H Q I h
 have ar:∀y c,cl.lookup y=some c->X.env.cells.lookup y=some c:=fun y c e=>by
  have q:=all_eq_true.mp hk _ (PySem.mem_of_lookup e)
  rw[<- (F.mem y (by simpa using q)).2]
  exact e
 rw[eval_ListComp]
 refine wpAny_comprehension_free (use:=none) rfl hs hclos hkind hnames ?_
 refine thn (hi ac s σ H _ I h) fun v s1 h1=>thn h1 fun av s2 h2=>?_
 obtain⟨it,fp,tn,J,H2,e,I2,T,aj,f2,q2⟩:=h2
 subst e
 have ap:H2 s2.heap.objs.size=none:=I2.hok.fresh (Nat.le_refl _)
 obtain⟨W,⟨m0,w0⟩,ai⟩:=q2 _ ap
 have am:∀b∈fp,b < s2.heap.objs.size:=fun b hb=>by
  obtain⟨o,e,_⟩:=T.obj _ _ aj b hb
  exact Heap.lt_size e
 refine wpAny_newObj_type (wpAny_newFunctionEnv hcell (by intro y hy;simp at hy) (fun h₁ ae ad=>?_) hkind)
 dsimp only at ae ad ⊢
 have af:∀b u,s2.heap.get? b=some u->(s2.heap.push {cls:=.type "list",dict:=none,data:=.seq ([]:List Value).toArray}).get? b=some u:=fun b u e=>Heap.get?_push_of_some _ e
 have ah:(s2.heap.push {cls:=.type "list",dict:=none,data:=.seq ([]:List Value).toArray}).get? s2.heap.objs.size=some {cls:=.type "list",dict:=none,data:=.seq ([]:List Value).toArray}:=Heap.get?_push_size _ rfl
 have al:(s2.heap.push {cls:=.type "list",dict:=none,data:=.seq ([]:List Value).toArray}).objs.size=s2.heap.objs.size+1:=Heap.size_push _ _
 generalize hHH:s2.heap.push {cls:=.type "list",dict:=none,data:=.seq ([]:List Value).toArray}=HH at ae ad af ah al ⊢
 have I3:Inv X ac σ (upd H2 s2.heap.objs.size (.lst [])) {s2 with heap:=HH,toks:=s2.toks}:=
  I2.laid (t':=s2.toks) (o:=.lst []) af (Nat.le_refl _) ⟨Nat.zero_le _,[],0,.nil,ah⟩
 have ao:∀b∈fp,FpOk X ac (upd H2 s2.heap.objs.size (.lst [])) b:=fun b hb=>by
  obtain⟨f0,au⟩:=f2 b hb
  exact⟨by rw[aqp (Nat.ne_of_lt (am b hb))];exact f0,au⟩
 have ag:∀b u,HH.get? b=some u->h₁.get? b=some u:=fun b u e=>ad.extBut b u (Nat.ne_of_lt (Heap.lt_size e)) (Heap.get?_push_of_some _ e)
 exact rqQ (s3:={ s2 with heap:=HH,toks:=s2.toks}) hc hkind hx hnd ar F hfx ht he I3 T (T.keep _ _ _ aj fun b hb o e=>af b o e) ao (fun b hb=>by show b < HH.objs.size;rw[al];exact Nat.lt_succ_of_lt (am b hb)) w0 ai ae ag fun s6 H5 o I6 qn=>by
  obtain⟨m,aq,_⟩:=id I6.loc
  exact⟨m,aq,fun h' sb=>⟨.ref _,H5,lq1 I3 I6 ao sb,rfl,qn⟩⟩
end
section
variable {p:Addr}{fv:St}{te:TE}{Q:VK}{H1:Hp}
theorem qqF {z:Str}(hz:z.length≤sizeLine)(hp:H1 p=none)(f:Nat->V)
  (he:∀c,c∈z.cps.toList->∀(H':Hp) (R:VK),(∀H'',Same H' H''->R (f c) H'')->te (some (.str ⟨#[c]⟩)::fv) H' R)
  (hQ:∀H',Same H1 H'->H' p=some (.lst (z.cps.toList.map f))->Q (.ref p) H'):CompI (Its z) p fv tYes te Q H1:=by
 have hl:z.cps.toList.length=z.length:=by simp[Str.length]
 refine⟨fun i m ys H2=>m=z.length - i∧i≤z.length∧ys=(z.cps.toList.take i).map f∧H2 p=some (.lst ys)∧Same H1 H2,⟨z.length,by simp,Nat.zero_le _,by simp,aqm,fun b o e=>by rw[aqp (aqn e hp)];exact e⟩,?_⟩
 rintro i m ys H2 ⟨rfl,hi,rfl,ac,sm⟩
 refine⟨ac,?_⟩
 by_cases ad:i < z.length
 ·refine .inr ⟨ad,?_,fun x H3 y=>?_⟩
  ·rw[length_map,length_take];lia
  ·obtain⟨rfl,c,hc,rfl⟩:=y
   unfold tYes
   dsimp only
   rw[if_pos rfl]
   refine he c (mem_of_getElem? hc) _ _ fun H5 s5=>⟨s5 _ _ ac,z.length - (i+1),by lia,rfl,ad,?_,aqm,fun b o e=>?_⟩
   ·rw[take_add_one,hc,map_append];rfl
   ·rw[aqp (aqn e hp)];exact s5 _ _ (sm _ _ e)
 ·have e:i=z.length:=by lia
  subst e
  refine .inl ⟨Nat.le_refl _,hQ H2 sm ?_⟩
  rw[ac,<- hl,take_length]
end
section
variable {σ:St}{H:Hp}{Q:VK}{K:W.Frag}{tl te:TE}{tt:TT}{fr:List Nat}
def yqt:frV σ []=[]:=rfl
def vqr {i:Nat}{r:List Nat}:frV σ (i::r)=(σ[i]?).getD none::frV σ r:=rfl
def Aqg {z:Str}{p:Addr}:rJoin K (.str z) [.ref p] H Q↔∃ys:List Str,SqL K H p (ys.map V.str)∧(ys.map (·.length)).sum+ys.length * z.length≤16777216∧Q (.str (Txt.join z ys)) H:=by
 constructor
 ·rintro⟨z',p',ys,h1,h2,h3⟩
  cases h1;cases h2
  exact⟨ys,h3⟩
 ·rintro⟨ys,h⟩
  exact⟨z,p,ys,rfl,rfl,h⟩
def vqn:(tComp (iStr tl) fr tt te σ H Q)=(tl σ H fun x H1=>∃z,x=.str z∧∀p,H1 p=none->CompI (Its z) p (frV σ fr) tt te Q H1):=rfl
def wqa:(tComp (iList K tl) fr tt te σ H Q)=(tl σ H fun x H1=>∃a,x=.ref a∧(∃xs,SqL K H1 a xs)∧∀p,H1 p=none->CompI (Itl K a) p (frV σ fr) tt te Q H1):=rfl
end
section
variable {X:Cx}{K:W.Frag}
def aqR (h:X.K=K):OpR X (binaryOp .Add) (rAddU K):=by subst h;exact sqW
def aqh (h:X.K=K):IxR X (rIx K):=by subst h;exact zqo
def tqJ (h:X.K=K):SlR X (rSl K):=by subst h;exact zqY
def aqO (h:X.K=K):CallR X (.builtin "len") (rLenU K):=by subst h;exact sqE
def kqW (h:X.K=K):MtR X "str.join" (rJoin K):=by subst h;exact xq4
def kq4 {tg l:Expr}{tl:TE}(h:X.K=K)(hl:PE X l tl):PI X tg l (iList K tl):=by subst h;exact xq0 hl
variable {o e:Expr}{es:List Expr}{to:TE}{t:TA}{name:Str}{apos cpos:Pos}{T id:String}{r:V->List V->Hp->VK->Prop}
theorem cqs (h:X.K=K)(pa:PlainAttrs T)(slot:Slot T name id)(hty:typeOf (.builtin id)=pure (.type "method_descriptor"))(hm:MtR X id r)(ho:PE X o to)(ha:PA X (e::es) t)
  (hbase:attributeBase o name X.env (eval o X.env)=eval o X.env:=by rfl)
  (hfew:((backTo cpos (starEach (e::es) X.env)).all (fun x=>!x.1) && (backToKw cpos (keywordEach [] X.env)).all (fun x=>x.1.isSome)
   && decide ((e::es).length+([]:List Keyword).length+(if ([]:List Keyword).isEmpty then 0 else 1) < 30))=true:=by rfl)
  (hline:(apos.endLine == cpos.line)=true:=by rfl) (hs:starEach (e::es) X.env=(false,eval e X.env)::starEach es X.env:=by rfl) (hplain:(backTo cpos (starEach es X.env)).any (·.1)=false:=by rfl) :
  PE X (.Call (.Attribute o name apos) (e::es) [] cpos) (tBM K T r to t):=by
 subst h;exact Aq3 pa slot hty hm ho ha hbase hfew hline hs hplain
end
structure FunD (K:W.Frag)(x qual:Str)(st:Stmt)(f:Addr)(fd:FuncData)(T:Addr):Prop where
 ex:∃(oc:Value) (od:Option Addr) (kV doc pm:Value) (an:Option Addr) (cdv ct:Value) (osl:Array (Option Value)),
  fd=PySem.W.fnOf x qual (defArgs st) (defBody st) (defScope st) (.ref T) kV doc pm an cdv ct∧K.lookup f=some ⟨oc,od,.func fd,osl⟩∧PySem.W.codeIn K cdv qual=true
 kp:PySem.W.keepIn K (.ref f)=true
section
variable {P:Program}{w:World}{K:W.Frag}{mg:Str->Option Value}{base:Heap}
theorem FunD.ok {x qual:Str}{st:Stmt}{f T:Addr}{fd:FuncData}{N ps:List Str}{k:Nat}{sp:Sp}(F:FunD K x qual st f fd T)(S:FnScope N ps (defScope st))(len:∀vs H Q E,sp vs H Q E->vs.length=ps.length)
  (hbody:∀(cdv:Value) (A:Around) (outer:List Env) (s:Shared) (H:Hp) (vs:List V) (Q:VK) (E:XK),Room k (A.deeper (envOfC qual (defScope st) s.heap.objs.size f cdv))->sp vs H Q E ->
   ∃t,PSs (cxOf CX0 P w K mg base N qual (defScope st) f cdv A outer s H E).nox (defBody st) t∧t {nx:=fun _ H'=>Q .non H',rt:=Q} (start N vs) H):FnOk P w K mg base CX0 (k+1) f fd ps sp:=by
 obtain⟨oc,od,kV,doc,pm,an,cdv,ct,osl,rfl,lk,hcd⟩:=F.ex
 refine uq2 lk hcd S len fun A outer s H vs Q E hr hsp=>?_
 obtain⟨t,h,q⟩:=hbody cdv A outer s H vs Q E hr hsp
 exact⟨t,h.nox,q⟩
theorem FunD.binds {x qual:Str}{st:Stmt}{f T:Addr}{fd:FuncData}{ps:List Str}{ds:List Value}{oc:Value}{od:Option Addr}{items:Array Value}{n:Nat}{sl:Array (Option Value)}(F:FunD K x qual st f fd T)(hT:K.lookup T=some ⟨oc,od,.seq items n,sl⟩)
  (h:∀(kV doc pm:Value) (an:Option Addr) (cdv ct:Value) (us:List Value),(us++ds).length=ps.length->∃k:Option (Array Value)->Sem (List (Str×Value)),
   bindArgs (PySem.W.fnOf x qual (defArgs st) (defBody st) (defScope st) (.ref T) kV doc pm an cdv ct) ⟨us,[]⟩=seqItems? (.ref T) >>= k∧k (some items)=pure (ps.zip (us++ds))):Binds K fd ps ds:=by
 obtain⟨oc',od',kV,doc,pm,an,cdv,ct,osl,rfl,lk,hcd⟩:=F.ex
 intro s us X hl
 obtain⟨k,h1,h2⟩:=h kV doc pm an cdv ct us hl
 exact BindsTo.of_defaults (T:=T) rfl (X T _ hT) rfl h1 h2
def qqc {x qual:Str}{st:Stmt}{f T:Addr}{oc:Value}{od an:Option Addr}{osl:Array (Option Value)}{kV doc pm cdv ct:Value}(l:K.lookup f=some ⟨oc,od,.func (PySem.W.fnOf x qual (defArgs st) (defBody st) (defScope st) (.ref T) kV doc pm an cdv ct),osl⟩)
  (c:PySem.W.codeIn K cdv qual=true) (k:PySem.W.keepIn K (.ref f)=true):FunD K x qual st f (PySem.W.fnOf x qual (defArgs st) (defBody st) (defScope st) (.ref T) kV doc pm an cdv ct) T:=⟨⟨oc,od,kV,doc,pm,an,cdv,ct,osl,rfl,l,c⟩,k⟩
end
def nq4 {c:TT}{tb:TS}{D:Ends}{σ:St}{H:Hp}(W:Nat->St->Hp->Prop)(m0:Nat)(h0:W m0 σ H)
  (hs:∀m σ H,W m σ H->c σ H fun b H1=>if b=true then ∃N:St->Hp->Prop,(∀σ' H',N σ' H'->∃m',m' < m∧W m' σ' H')∧tb {D with nx:=N,ct:=N,bk:=D.nx} σ H1 else D.nx σ H1):tWhile c tb D σ H:=⟨W,⟨m0,h0⟩,hs⟩
section
variable {σ:St}{H:Hp}{Q:VK}
def AqW {r:V->Hp->VK->Prop}{ta:TE}:(tUn r ta σ H Q)=(ta σ H fun x H1=>r x H1 Q):=rfl
def rd_U {g:Int->V}{i:Int}:rU g (.int i) H Q↔Q (g i) H:=⟨fun⟨_,h1,h2⟩=>by cases h1;exact h2,fun h=>⟨i,rfl,h⟩⟩
def zqG {l:Addr}{y:V}:rAppend (.ref l) [y] H Q↔∃xs,H l=some (.lst xs)∧xs.length < sizeLine∧Q .non (upd H l (.lst (xs++[y]))):=by
 constructor
 ·rintro⟨l',xs,y',h1,h2,h3⟩
  cases h1;cases h2
  exact⟨xs,h3⟩
 ·rintro⟨xs,h⟩
  exact⟨l,xs,y,rfl,rfl,h⟩
def xqj {K:W.Frag}{p:Addr}:tyV K "list" (.ref p) H↔∃xs,SqL K H p xs:=by
 constructor
 ·rintro (⟨_,h⟩|⟨h,_⟩|⟨h,_⟩|⟨h,_⟩)
  ·exact h
  ·exact absurd h (by decide)
  ·exact absurd h (by decide)
  ·exact absurd h (by decide)
 ·intro h;exact .inl ⟨rfl,h⟩
end
mutual
inductive Is (H:Hp):PyData->V->Prop
 |non:Is H .none .non
 |bl (b:Bool):Is H (.bool b) (.bl b)
 |int (i:Int):Is H (.int i) (.int i)
 |str (x:Str):Is H (.str x) (.str x)
 |lst {p:Addr}{xs:List V}{ds:List PyData}:H p=some (.lst xs)->IsAll H ds xs->Is H (.list ds) (.ref p)
 |tup {p:Addr}{xs:List V}{ds:List PyData}:H p=some (.tup xs)->IsAll H ds xs->Is H (.tuple ds) (.ref p)
inductive IsAll (H:Hp):List PyData->List V->Prop
 |nil:IsAll H [] []
 |cons {d:PyData}{x:V}{ds:List PyData}{xs:List V}:Is H d x->IsAll H ds xs->IsAll H (d::ds) (x::xs)
end
mutual
theorem Is.mono {H H':Hp}(sm:Same H H'):∀{d:PyData}{x:V},Is H d x->Is H' d x
 |_,_,.non=>.non
 |_,_,.bl b=>.bl b
 |_,_,.int i=>.int i
 |_,_,.str x=>.str x
 |_,_,.lst h r=>.lst (sm _ _ h) (IsAll.mono sm r)
 |_,_,.tup h r=>.tup (sm _ _ h) (IsAll.mono sm r)
theorem IsAll.mono {H H':Hp}(sm:Same H H'):∀{ds:List PyData}{xs:List V},IsAll H ds xs->IsAll H' ds xs
 |_,_,.nil=>.nil
 |_,_,.cons h r=>.cons (Is.mono sm h) (IsAll.mono sm r)
end
theorem IsAll.length {H:Hp}:∀{ds:List PyData}{xs:List V},IsAll H ds xs->ds.length=xs.length
 |_,_,.nil=>rfl
 |_,_,.cons _ r=>by rw[length_cons,length_cons,IsAll.length r]
theorem IsAll.at {H:Hp}:∀{ds:List PyData}{xs:List V},IsAll H ds xs->∀(i:Nat) (x:V),xs[i]?=some x->∃d,ds[i]?=some d∧Is H d x
 |_,_,.nil,i,x,h=>by simp at h
 |_,_,.cons q r,0,x,h=>by simp at h;subst h;exact⟨_,rfl,q⟩
 |_,_,.cons q r,i+1,x,h=>by
  obtain⟨d,h1,h2⟩:=r.at i x (by simpa using h)
  exact⟨d,by simpa using h1,h2⟩
section
variable {X:Cx}{pins:List (Addr×Obj)}{σ:St}{H:Hp}{s:Shared}
mutual
theorem Is.reads (I:Inv X pins σ H s):∀{d:PyData}{x:V}{v:Value},Is H d x->RelV x v->∃as,Reads s.heap v d as
 |_,_,_,.non,r=>by cases r;exact⟨_,.none⟩
 |_,_,_,.bl b,r=>by cases r;exact⟨_,.bool b⟩
 |_,_,_,.int i,r=>by obtain⟨t,rfl⟩:=r;exact⟨_,.int i t⟩
 |_,_,_,.str x,r=>by obtain⟨t,rfl⟩:=r;exact⟨_,.str x t⟩
 |_,_,_,.lst h q,r=>by
  cases r
  obtain⟨its,vs,⟨o,n,e,c,_,dt⟩,_⟩:=I.list (SqL.of h)
  obtain⟨as,ra⟩:=IsAll.reads I q vs
  exact⟨_,.list e c dt (by simpa using ra)⟩
 |_,_,_,.tup h q,r=>by
  cases r
  obtain⟨its,vs,⟨o,e,c,n,dt⟩,_⟩:=I.tuple (SqT.of h)
  obtain⟨as,ra⟩:=IsAll.reads I q vs
  exact⟨_,.tuple e c dt (by simpa using ra)⟩
theorem IsAll.reads (I:Inv X pins σ H s):∀{ds:List PyData}{xs:List V}{vs:List Value},IsAll H ds xs->Vals xs vs->∃as,ReadsAll s.heap vs ds as
 |_,_,_,.nil,r=>by cases r;exact⟨_,.nil⟩
 |_,_,_,.cons q t,r=>by
  cases r with
  |cons r1 r2=>
   obtain⟨as,h1⟩:=Is.reads I q r1
   obtain⟨bs,h2⟩:=IsAll.reads I t r2
   exact⟨_,.cons h1 h2⟩
end
def rEqD:R2:=fun x y H Q=>∃d e,Is H d x∧Is H e y∧SeqAt.shaped d=true∧SeqAt.shaped e=true∧Q (.bl (PyData.eqv d e)) H
def rNeD:R2:=fun x y H Q=>∃d e,Is H d x∧Is H e y∧SeqAt.shaped d=true∧SeqAt.shaped e=true∧Q (.bl (!PyData.eqv d e)) H
def nqa (hu:X.A.units+64 < cLine):OpR X (compareOp .Eq) rEqD:=by
 intro pins s σ H x y v u Q I rx ry h
 obtain⟨d,e,hx,hy,sx,sy,q⟩:=h
 obtain⟨as,ra⟩:=hx.reads I rx
 obtain⟨bs,rb⟩:=hy.reads I ry
 exact eq_dataH ra rb sx sy hu ⟨.bl _,H,I,rfl,q⟩
def mqb (hu:X.A.units+64 < cLine):OpR X (compareOp .NotEq) rNeD:=by
 intro pins s σ H x y v u Q I rx ry h
 obtain⟨d,e,hx,hy,sx,sy,q⟩:=h
 obtain⟨as,ra⟩:=hx.reads I rx
 obtain⟨bs,rb⟩:=hy.reads I ry
 exact ne_dataH ra rb sx sy hu ⟨.bl _,H,I,rfl,q⟩
end
mutual
inductive IsT (H:Hp):PyData->V->Prop
 |non:IsT H .none .non
 |bl (b:Bool):IsT H (.bool b) (.bl b)
 |int (i:Int):IsT H (.int i) (.int i)
 |str (x:Str):IsT H (.str x) (.str x)
 |tup {p:Addr}{xs:List V}{ds:List PyData}:H p=some (.tup xs)->IsTAll H ds xs->IsT H (.tuple ds) (.ref p)
inductive IsTAll (H:Hp):List PyData->List V->Prop
 |nil:IsTAll H [] []
 |cons {d:PyData}{x:V}{ds:List PyData}{xs:List V}:IsT H d x->IsTAll H ds xs->IsTAll H (d::ds) (x::xs)
end
def SameT (H H':Hp):Prop:=∀b xs,H b=some (.tup xs)->H' b=some (.tup xs)
def Same.toT {H H':Hp}(h:Same H H'):SameT H H':=fun b xs e=>h b _ e
mutual
theorem IsT.mono {H H':Hp}(sm:SameT H H'):∀{d:PyData}{x:V},IsT H d x->IsT H' d x
 |_,_,.non=>.non
 |_,_,.bl b=>.bl b
 |_,_,.int i=>.int i
 |_,_,.str x=>.str x
 |_,_,.tup h r=>.tup (sm _ _ h) (IsTAll.mono sm r)
theorem IsTAll.mono {H H':Hp}(sm:SameT H H'):∀{ds:List PyData}{xs:List V},IsTAll H ds xs->IsTAll H' ds xs
 |_,_,.nil=>.nil
 |_,_,.cons h r=>.cons (IsT.mono sm h) (IsTAll.mono sm r)
end
mutual
theorem IsT.is {H:Hp}:∀{d:PyData}{x:V},IsT H d x->Is H d x
 |_,_,.non=>.non
 |_,_,.bl b=>.bl b
 |_,_,.int i=>.int i
 |_,_,.str x=>.str x
 |_,_,.tup h r=>.tup h (IsTAll.is r)
theorem IsTAll.is {H:Hp}:∀{ds:List PyData}{xs:List V},IsTAll H ds xs->IsAll H ds xs
 |_,_,.nil=>.nil
 |_,_,.cons h r=>.cons (IsT.is h) (IsTAll.is r)
end
section
variable {p:Addr}{fv:St}{te:TE}{Q:VK}{H1:Hp}
inductive All2 (R:V->V->Hp->Prop)(H:Hp):List V->List V->Prop
 |nil:All2 R H [] []
 |cons {x y:V}{xs ys:List V}:R x y H->All2 R H xs ys->All2 R H (x::xs) (y::ys)
end
section
variable {X:Cx}
def rAllB (K:W.Frag):List V->Hp->VK->Prop:=fun vs H Q=>∃(p:Addr) (bs:List Bool),vs=[.ref p]∧SqL K H p (bs.map V.bl)∧Q (.bl (bs.all id)) H
def rAnyB (K:W.Frag):List V->Hp->VK->Prop:=fun vs H Q=>∃(p:Addr) (bs:List Bool),vs=[.ref p]∧SqL K H p (bs.map V.bl)∧Q (.bl (bs.any id)) H
theorem vqQ {bs:List Bool}:∀{us:List Value},Vals (bs.map V.bl) us->∀(i:Nat) (v:Value),us[i]?=some v->∃b,bs[i]?=some b∧v=.bool b:=by
 induction bs with
 |nil=>intro us r i v h;rw[map_nil] at r;cases r;simp at h
 |cons b bs ih=>
  intro us r i v h
  rw[map_cons] at r
  cases r with
  |cons r1 r2=>
   cases i with
   |zero=>simp at h;subst h;exact⟨b,rfl,r1⟩
   |succ i=>
    obtain⟨c,h1,h2⟩:=ih r2 i v (by simpa using h)
    exact⟨c,by simpa using h1,h2⟩
theorem tq7 (hc:X.calm=true):CallR X (.builtin "all") (rAllB X.K):=by
 intro ad s σ H xs us Q I r h
 obtain⟨p,bs,rfl,hq,q⟩:=h
 obtain⟨u,rfl,ru⟩:=vals1 r
 cases ru
 obtain⟨ac,vs,pl,hl⟩:=I.list hq
 have hI:=pl.isList
 have ae:p < s.heap.objs.size:=by obtain⟨_,e,_⟩:=hI;exact Heap.lt_size e
 refine call_all_walk (wpAny_pyIter_list hI ?_)
 refine⟨s.heap.objs.size,[s.heap.objs.size,p],[s.heap.objs.size],ac.toArray.size,_,_,fun i=>(bs[i]?).getD true,rfl,Walks.list (A:=X.A.in1) (I.ok.hd hc) _ p (Nat.ne_of_lt ae) ac.toArray,
  ⟨⟨_,Heap.get?_push_size _ rfl,rfl,rfl⟩,hI.push _⟩,fun i v s' Q' E' hP hQ=>?_,fun h' tk hk=>?_⟩
 ·obtain⟨b,e,rfl⟩:=vqQ vs i v (by simpa using hP)
  simp only[e,Option.getD_some] at hQ
  exact wpAny_truthy_bool hQ
 ·have af:=vs.length
  rw[length_map] at af
  have e:((List.range ac.toArray.size).all fun i=>(bs[i]?).getD true)=bs.all id:=by
   rw[size_toArray,<- af];exact PyProof.Rows.LSm.range_all bs
  exact⟨.bl _,H,I.kept (t':=tk) (PyProof.Rows.LSm.kept_iter hk),rfl,by rw[e];exact q⟩
variable {K:W.Frag}
def oqH (h:X.K=K)(hc:X.calm=true):CallR X (.builtin "all") (rAllB K):=by subst h;exact tq7 hc
def rListU (K:W.Frag):List V->Hp->VK->Prop:=fun xs H Q=>∃p ys,xs=[.ref p]∧(SqL K H p ys∨SqT K H p ys)∧∀l,H l=none->Q (.ref l) (upd H l (.lst ys))
def rTupleU (K:W.Frag):List V->Hp->VK->Prop:=fun xs H Q=>∃p ys,xs=[.ref p]∧((SqL K H p ys∧∀l,H l=none->Q (.ref l) (upd H l (.tup ys)))∨(SqT K H p ys∧Q (.ref p) H))
def jq0 {tg l:Expr}{tl:TE}(h:X.K=K)(hl:PE X l tl):PI X tg l (iTup K tl):=by subst h;exact zqy hl
end
section
variable {H:Hp}{Q:VK}{K:W.Frag}
def xqs {x:V}{T:String}:(rIsiU [x,.ty T] H Q)=(∃k,kindV x H=some k∧T∈["bool","int","str","list","tuple"]∧Q (.bl (subT k T)) H):=rfl
def uqS:kindV .non H=some "NoneType" := rfl
def xqK {b:Bool}:kindV (.bl b) H=some "bool" := rfl
def vql {i:Int}:kindV (.int i) H=some "int" := rfl
def uqK {x:Str}:kindV (.str x) H=some "str" := rfl
def kq0 {p:Addr}{xs:List V}(h:H p=some (.lst xs)):kindV (.ref p) H=some "list" := by simp only[kindV,h]
def lqa {p:Addr}{xs:List V}(h:H p=some (.tup xs)):kindV (.ref p) H=some "tuple" := by simp only[kindV,h]
def tqo:("bool" ∈ ["bool","int","str","list","tuple"])=True:=by simp
def vqw:("int" ∈ ["bool","int","str","list","tuple"])=True:=by simp
def uqY:("str" ∈ ["bool","int","str","list","tuple"])=True:=by simp
def sqK:("list" ∈ ["bool","int","str","list","tuple"])=True:=by simp
def sqf:("tuple" ∈ ["bool","int","str","list","tuple"])=True:=by simp
def jqS:subT "NoneType" "bool"=false:=by decide
def kqI:subT "NoneType" "int"=false:=by decide
def kqF:subT "NoneType" "str"=false:=by decide
def jqR:subT "NoneType" "list"=false:=by decide
def iqD:subT "NoneType" "tuple"=false:=by decide
def nqz:subT "bool" "bool"=true:=by decide
def oqp:subT "bool" "int"=true:=by decide
def pqa:subT "bool" "str"=false:=by decide
def nqv:subT "bool" "list"=false:=by decide
def mqq:subT "bool" "tuple"=false:=by decide
def pqo:subT "int" "bool"=false:=by decide
def pqM:subT "int" "int"=true:=by decide
def pq7:subT "int" "str"=false:=by decide
def oqx:subT "int" "list"=false:=by decide
def nqC:subT "int" "tuple"=false:=by decide
def pqj:subT "str" "bool"=false:=by decide
def pqS:subT "str" "int"=false:=by decide
def pqJ:subT "str" "str"=true:=by decide
def oqC:subT "str" "list"=false:=by decide
def nq7:subT "str" "tuple"=false:=by decide
def nqy:subT "list" "bool"=false:=by decide
def oqE:subT "list" "int"=false:=by decide
def oqt:subT "list" "str"=false:=by decide
def nqM:subT "list" "list"=true:=by decide
def mqn:subT "list" "tuple"=false:=by decide
def mqD:subT "tuple" "bool"=false:=by decide
def nqe:subT "tuple" "int"=false:=by decide
def nqH:subT "tuple" "str"=false:=by decide
def mqm:subT "tuple" "list"=false:=by decide
def lqH:subT "tuple" "tuple"=true:=by decide
def xqS {n:Nat}{t:TGs}{v:V}{σ:St}{R:St->Hp->Prop}:(gTup K n t v σ H R)=(∃a xs,v=.ref a∧SqT K H a xs∧xs.length=n∧t xs σ H R):=rfl
def uqC {t:TG}{u:TGs}{vs:List V}{σ:St}{R:St->Hp->Prop}:(gCons t u vs σ H R)=(∃v r,vs=v::r∧t v σ H fun σ' H'=>u r σ' H' R):=rfl
def yqJ {vs:List V}{σ:St}{R:St->Hp->Prop}:(gNil vs σ H R)=(vs=[]∧R σ H):=rfl
def yqn {to ti:TE}{t:TSet}{v:V}{σ:St}{R:St->Hp->Prop}:(gSub to ti t v σ H R)=(to σ H fun o H1=>ti σ H1 fun i H2=>t o i v H2 fun H3=>R σ H3):=rfl
def xqf {p:Addr}{k:Int}{v:V}{R:Hp->Prop}:rSetL (.ref p) (.int k) v H R↔∃xs j,H p=some (.lst xs)∧ixN xs.length k=some j∧R (upd H p (.lst (xs.set j v))):=by
 constructor
 ·rintro⟨p',xs,k',j,h1,h2,h3⟩;cases h1;cases h2;exact⟨xs,j,h3⟩
 ·rintro⟨xs,j,h⟩;exact⟨p,xs,k,j,rfl,rfl,h⟩
end
section
variable {X:Cx}{K:W.Frag}
def iql {es:List Expr}{k:Nat}{t:TGs}{n:Nat}{pos:Pos}(h:X.K=K)(hc:X.calm=true)(hg:PGs X es t)
  (hn:(assignEach es X.env).length=n:=by rfl) (hst:(assignEach es X.env).findIdx? (·.1)=none:=by rfl):PG X (.Tuple es k pos) (gTup K n t):=by
 subst h;exact wqH hc hg hn hst
end
def SameBut (p:Addr)(H H':Hp):Prop:=∀b o,b≠p->H b=some o->H' b=some o
def SameBut.refl (p:Addr)(H:Hp):SameBut p H H:=fun _ _ _ e=>e
def SameBut.trans {p:Addr}{H H' H'':Hp}(h:SameBut p H H')(h':SameBut p H' H''):SameBut p H H'':=fun b o n e=>h' b o n (h b o n e)
def Same.but {p:Addr}{H H':Hp}(h:Same H H'):SameBut p H H':=fun b o _ e=>h b o e
def iqq {p:Addr}{H:Hp}{o:HO}:SameBut p H (upd H p o):=fun b u n e=>by rw[aqp n];exact e
def SameBut.same {p:Addr}{H H':Hp}(h:SameBut p H H')(hp:H p=none):Same H H':=fun b o e=>h b o (aqn e hp) e
section
variable {p:Addr}{fv:St}{te:TE}{Q:VK}{H1:Hp}{K:W.Frag}
def Same.tup {H H':Hp}{a:Addr}{xs:List V}(e:Same H H')(h:SqT K H a xs):SqT K H' a xs:=by
 rcases h with (h|⟨o,h⟩)|h
 ·exact .inl (.inl (e _ _ h))
 ·exact .inl (.inr ⟨o,e _ _ h⟩)
 ·exact .inr h
theorem sqv {a:Addr}{xs zs:List V}(hxs:SqT K H1 a xs)(hlen:xs.length≤sizeLine)(hp:H1 p=none)(hz:zs.length=xs.length)
  (he:∀(i:Nat) (x z:V),xs[i]?=some x->zs[i]?=some z->∀(H':Hp) (T:VK),Same H1 H'->(∀H'',Same H' H''->T z H'')->te (some x::fv) H' T)
  (hQ:∀H',Same H1 H'->H' p=some (.lst zs)->Q (.ref p) H'):CompI (Itt K a) p fv tYes te Q H1:=by
 refine⟨fun i m ys H2=>m=xs.length - i∧i≤xs.length∧ys=zs.take i∧H2 p=some (.lst ys)∧Same H1 H2,⟨xs.length,by simp,Nat.zero_le _,by simp,aqm,fun b o e=>by rw[aqp (aqn e hp)];exact e⟩,?_⟩
 rintro i m ys H2 ⟨rfl,hi,rfl,ac,sm⟩
 refine⟨ac,?_⟩
 have q:=sm.tup hxs
 by_cases ae:i < xs.length
 ·refine .inr ⟨⟨xs,xs[i],q,by simp[ae]⟩,?_,fun x H3 y=>?_⟩
  ·rw[length_take];lia
  ·obtain⟨rfl,y⟩:=y
   have hc:=y xs q
   have ad:zs[i]?=some zs[i]:=List.getElem?_eq_getElem (by lia)
   unfold tYes
   dsimp only
   rw[if_pos rfl]
   refine he i x _ hc ad _ _ sm fun H5 s5=>⟨s5 _ _ ac,xs.length - (i+1),by lia,rfl,ae,?_,aqm,fun b o e=>?_⟩
   ·rw[take_add_one,ad];rfl
   ·rw[aqp (aqn e hp)];exact s5 _ _ (sm _ _ e)
 ·have e:i=xs.length:=by lia
  subst e
  refine .inl ⟨⟨xs,q,Nat.le_refl _⟩,hQ H2 sm ?_⟩
  rw[ac,<- hz,take_length]
theorem rq1 {a:Addr}{xs zs:List V}(hxs:SqL K H1 a xs)(hlen:xs.length≤sizeLine)(hp:H1 p=none)(hz:zs.length=xs.length)
  (he:∀(i:Nat) (x z:V),xs[i]?=some x->zs[i]?=some z->∀(H':Hp) (T:VK),Same H1 H'->(∀H'',Same H' H''->T z H'')->te (some x::fv) H' T)
  (hQ:∀H',Same H1 H'->H' p=some (.lst zs)->Q (.ref p) H'):CompI (Itl K a) p fv tYes te Q H1:=by
 refine⟨fun i m ys H2=>m=xs.length - i∧i≤xs.length∧ys=zs.take i∧H2 p=some (.lst ys)∧Same H1 H2,⟨xs.length,by simp,Nat.zero_le _,by simp,aqm,fun b o e=>by rw[aqp (aqn e hp)];exact e⟩,?_⟩
 rintro i m ys H2 ⟨rfl,hi,rfl,ac,sm⟩
 refine⟨ac,?_⟩
 have q:=sm.seq hxs
 by_cases ae:i < xs.length
 ·refine .inr ⟨⟨xs,xs[i],q,by simp[ae]⟩,?_,fun x H3 y=>?_⟩
  ·rw[length_take];lia
  ·obtain⟨rfl,y⟩:=y
   have hc:=y xs q
   have ad:zs[i]?=some zs[i]:=List.getElem?_eq_getElem (by lia)
   unfold tYes
   dsimp only
   rw[if_pos rfl]
   refine he i x _ hc ad _ _ sm fun H5 s5=>⟨s5 _ _ ac,xs.length - (i+1),by lia,rfl,ae,?_,aqm,fun b o e=>?_⟩
   ·rw[take_add_one,ad];rfl
   ·rw[aqp (aqn e hp)];exact s5 _ _ (sm _ _ e)
 ·have e:i=xs.length:=by lia
  subst e
  refine .inl ⟨⟨xs,q,Nat.le_refl _⟩,hQ H2 sm ?_⟩
  rw[ac,<- hz,take_length]
variable {σ:St}{H:Hp}{tl:TE}{tt:TT}{fr:List Nat}{g:TG}{tb:TS}{D:Ends}
def vq6:(tComp (iTup K tl) fr tt te σ H Q)=(tl σ H fun x H1=>∃a,x=.ref a∧(∃xs,SqT K H1 a xs)∧∀p,H1 p=none->CompI (Itt K a) p (frV σ fr) tt te Q H1):=rfl
def wqU:(tFor (iTup K te) g tb D σ H)=(te σ H fun x H1=>∃a,x=.ref a∧(∃xs,SqT K H1 a xs)∧LoopI (Itt K a) g tb D σ H1):=rfl
def rql {a:Addr}{xs:List V}(Pv:Nat->St->Hp->Prop)(h0:Pv 0 σ H)(hl:∀i σ H,i≤xs.length->Pv i σ H->SqT K H a xs)
  (hs:∀i x σ H,xs[i]?=some x->Pv i σ H->g x σ H fun σ2 H2=>tb {D with nx:=Pv (i+1),ct:=Pv (i+1),bk:=D.nx} σ2 H2) (hd:∀σ H,Pv xs.length σ H->D.nx σ H):LoopI (Itt K a) g tb D σ H:=xqn Pv h0 hl hs hd
def pqE {a:Addr}:rAllB K [.ref a] H Q↔∃bs:List Bool,SqL K H a (bs.map V.bl)∧Q (.bl (bs.all id)) H:=by
 constructor
 ·rintro⟨p,bs,h1,h2⟩;cases h1;exact⟨bs,h2⟩
 ·rintro⟨bs,h⟩;exact⟨a,bs,rfl,h⟩
def yqh {a:Addr}:rAnyB K [.ref a] H Q↔∃bs:List Bool,SqL K H a (bs.map V.bl)∧Q (.bl (bs.any id)) H:=by
 constructor
 ·rintro⟨p,bs,h1,h2⟩;cases h1;exact⟨bs,h2⟩
 ·rintro⟨bs,h⟩;exact⟨a,bs,rfl,h⟩
def zql {a:Addr}:rListU K [.ref a] H Q↔∃ys,(SqL K H a ys∨SqT K H a ys)∧∀l,H l=none->Q (.ref l) (upd H l (.lst ys)):=by
 constructor
 ·rintro⟨p,bs,h1,h2⟩;cases h1;exact⟨bs,h2⟩
 ·rintro⟨bs,h⟩;exact⟨a,bs,rfl,h⟩
def zqB {a:Addr}:rTupleU K [.ref a] H Q↔∃ys,(SqL K H a ys∧∀l,H l=none->Q (.ref l) (upd H l (.tup ys)))∨(SqT K H a ys∧Q (.ref a) H):=by
 constructor
 ·rintro⟨p,bs,h1,h2⟩;cases h1;exact⟨bs,h2⟩
 ·rintro⟨bs,h⟩;exact⟨a,bs,rfl,h⟩
def xqd {a:Addr}{lo hi:Option Int}:rSlT K (.ref a) lo hi H Q↔∃xs,SqT K H a xs∧¬ (HT.sIx xs.length 0 lo=0∧HT.sIx xs.length xs.length hi=xs.length)∧∀p,H p=none->Q (.ref p) (upd H p (.tup (cutV xs lo hi))):=by
 constructor
 ·rintro⟨p,bs,h1,h2⟩;cases h1;exact⟨bs,h2⟩
 ·rintro⟨bs,h⟩;exact⟨a,bs,rfl,h⟩
end
def tCut (t u:TS):TS:=fun D σ H=>∃P:St->Hp->Prop,t {D with nx:=P} σ H∧∀σ' H',P σ' H'->u D σ' H'
section
variable {X:Cx}{st:Stmt}{rest:List Stmt}{t u:TS}
theorem aqE (h1:PS X st t)(h2:PSs X rest u):PSs X (st::rest) (tCut t u):=by
 intro pins s σ H D I h
 obtain⟨P,h,hu⟩:=h
 refine wpAny_execs_cons (thn (h1 pins s σ H {D with nx:=P} I h) fun f s1 q=>?_)
 cases f with
 |next=>
  obtain⟨σ',H',I',q⟩:=q
  exact h2 pins s1 σ' H' D I' (hu _ _ q)
 |ret v=>exact q
 |brk=>exact q
 |cont=>exact q
def Later (u:TS)(D:Ends)(σ:St)(H:Hp):Prop:=u D σ H
def vqT {D:Ends}{x:Option V}{σ:St}{H:Hp}:(Later u D (x::σ) H)=(u D (x::σ) H):=rfl
def Aqv {D:Ends}{σ:St}{H:Hp}:(tCut t u D σ H)=(∃P:St->Hp->Prop,t {D with nx:=P} σ H∧∀σ' H',P σ' H'->Later u D σ' H'):=rfl
end
theorem SameBut.free {p q:Addr}{H H':Hp}(sb:SameBut p H H')(hq:H' q=none)(hne:q≠p):H q=none:=by
 cases e:H q with
 |none=>rfl
 |some o=>rw[sb q o hne e] at hq;cases hq
def SameBut.upd {p q:Addr}{H H':Hp}{o:HO}(sb:SameBut p H H')(hq:H q=none):SameBut p H (upd H' q o):=fun b u n e=>by
 rw[aqp (aqn e hq)];exact sb b u n e
def bqc {H:Hp}{p:Addr}{o:HO}(hp:H p=none):Same H (upd H p o):=fun b u e=>by rw[aqp (aqn e hp)];exact e
def tTupS (t:TA):TE:=fun σ H Q=>t σ H fun xs H1=>xs.length≤sizeLine∧∀p H',H1 p=none->Same H1 H'->H' p=some (.tup xs)->Q (.ref p) H'
def tLstS (t:TA):TE:=fun σ H Q=>t σ H fun xs H1=>xs.length≤sizeLine∧∀p H',H1 p=none->Same H1 H'->H' p=some (.lst xs)->Q (.ref p) H'
section
variable {X:Cx}{es:List Expr}{t:TA}{pos:Pos}{K:W.Frag}
def aqy {x1}(h:PA X es t):PE X (.Tuple es x1 pos) (tTupS t):=by
 intro ac s σ H Q I hq
 refine wpAny_Tuple_spliced (thn (h pos ac s σ H _ I hq) fun us s1 ⟨xs,H1,I1,r,z,q⟩=>⟨by rw[<- r.length];exact z,?_⟩)
 have hf:H1 s1.heap.objs.size=none:=I1.hok.fresh (Nat.le_refl _)
 refine⟨.ref s1.heap.objs.size,upd H1 s1.heap.objs.size (.tup xs),I1.laid (t':=s1.toks) (fun b u e=>Heap.get?_push_of_some _ e) (Nat.le_refl _) ?_,rfl,q _ _ hf (bqc hf) aqm⟩
 exact⟨z,us,r,⟨_,Heap.get?_push_size _ rfl,rfl,_,rfl⟩⟩
def aqG (h:PA X es t):PE X (.List es pos) (tLstS t):=by
 intro ac s σ H Q I hq
 refine wpAny_List_spliced (thn (h pos ac s σ H _ I hq) fun us s1 ⟨xs,H1,I1,r,z,q⟩=>⟨by rw[<- r.length];exact z,?_⟩)
 have hf:H1 s1.heap.objs.size=none:=I1.hok.fresh (Nat.le_refl _)
 refine⟨.ref s1.heap.objs.size,upd H1 s1.heap.objs.size (.lst xs),I1.laid (t':=s1.toks) (fun b u e=>Heap.get?_push_of_some _ e) (Nat.le_refl _) ?_,rfl,q _ _ hf (bqc hf) aqm⟩
 exact⟨z,us,0,r,Heap.get?_push_size _ rfl⟩
def rAddS (K:W.Frag):R2:=fun x y H Q=>match x,y with
 |.int i,.int j=>Q (.int (i+j)) H
 |.str i,.str j=>i.length+j.length≤sizeLine∧Q (.str (i++j)) H
 |.ref a,.ref b=>(∃xs zs,H a=some (.lst xs)∧H b=some (.lst zs)∧xs.length+zs.length≤sizeLine∧∀p H',H p=none->Same H H'->H' p=some (.lst (xs++zs))->Q (.ref p) H') ∨
   (∃xs ys,H a=some (.tup xs)∧H b=some (.tup ys)∧xs.length+ys.length≤sizeLine∧∀p H',Same H H'->H' p=some (.tup (xs++ys))->Q (.ref p) H')
 |_,_=>False
theorem aqB:OpR X (binaryOp .Add) (rAddS K):=by
 intro ac s σ H x y v u Q I rx ry h
 refine sqW ac s σ H x y v u Q I rx ry ?_
 cases x with
 |int i=>
  cases y with
  |int j=>exact h
  |_=>exact h.elim
 |str i=>
  cases y with
  |str j=>exact h
  |_=>exact h.elim
 |ref a=>
  cases y with
  |ref b=>
   rcases h with⟨xs,zs,h1,h2,h3,h4⟩|h
   ·exact .inl ⟨xs,zs,h1,h2,h3,fun p hp=>h4 p _ hp (bqc hp) aqm⟩
   ·exact .inr h
  |_=>exact h.elim
 |_=>exact h.elim
def rListS (K:W.Frag):List V->Hp->VK->Prop:=fun xs H Q=>∃p ys,xs=[.ref p]∧(SqL K H p ys∨SqT K H p ys)∧∀l H',H l=none->Same H H'->H' l=some (.lst ys)->Q (.ref l) H'
def rTupleS (K:W.Frag):List V->Hp->VK->Prop:=fun xs H Q=>∃p ys,xs=[.ref p]∧(SqL K H p ys∨H p=some (.tup ys))∧∀l H',Same H H'->H' l=some (.tup ys)->Q (.ref l) H'
def mqT (h:X.K=K):CallR X (.type "list") (rListS K):=by
 subst h
 intro pins s σ H xs us Q I r h
 obtain⟨p,ys,h1,h2,h3⟩:=h
 exact pqb pins s σ H xs us Q I r ⟨p,ys,h1,h2,fun l hl=>h3 l _ hl (bqc hl) aqm⟩
def cqS (h:X.K=K):CallR X (.type "tuple") (rTupleS K):=by
 subst h
 intro pins s σ H xs us Q I r h
 obtain⟨p,ys,h1,h2,h3⟩:=h
 rcases h2 with h2|h2
 ·exact iq6 pins s σ H xs us Q I r ⟨p,ys,h1,.inl ⟨h2,fun l hl=>h3 l _ (bqc hl) aqm⟩⟩
 ·exact iq6 pins s σ H xs us Q I r ⟨p,ys,h1,.inr ⟨SqT.of h2,h3 p H (Same.refl _) h2⟩⟩
def rSlS2 (K:W.Frag):V->Option Int->Option Int->Hp->VK->Prop:=fun x lo hi H Q=>∃a xs,x=.ref a∧SqT K H a xs ∧
 ¬ (HT.sIx xs.length 0 lo=0∧HT.sIx xs.length xs.length hi=xs.length)∧∀p H',H p=none->Same H H'->H' p=some (.tup (cutV xs lo hi))->Q (.ref p) H'
end
section
variable {σ:St}{H:Hp}{Q:VK}{K:W.Frag}{aa:TA}
def yqy:(tTupS aa σ H Q)=(aa σ H fun xs H1=>xs.length≤sizeLine∧∀p H',H1 p=none->Same H1 H'->H' p=some (.tup xs)->Q (.ref p) H'):=rfl
def wqW:(tLstS aa σ H Q)=(aa σ H fun xs H1=>xs.length≤sizeLine∧∀p H',H1 p=none->Same H1 H'->H' p=some (.lst xs)->Q (.ref p) H'):=rfl
def wq8 {i j:Int}:(rAddS K (.int i) (.int j) H Q)=(Q (.int (i+j)) H):=rfl
def dqA {i j:Str}:(rAddS K (.str i) (.str j) H Q)=(i.length+j.length≤sizeLine∧Q (.str (i++j)) H):=rfl
def yqS {a:Addr}:rListS K [.ref a] H Q↔∃ys,(SqL K H a ys∨SqT K H a ys)∧∀l H',H l=none->Same H H'->H' l=some (.lst ys)->Q (.ref l) H':=by
 constructor
 ·rintro⟨p,bs,h1,h2⟩;cases h1;exact⟨bs,h2⟩
 ·rintro⟨bs,h⟩;exact⟨a,bs,rfl,h⟩
def yqs {a:Addr}:rTupleS K [.ref a] H Q↔∃ys,(SqL K H a ys∨H a=some (.tup ys))∧∀l H',Same H H'->H' l=some (.tup ys)->Q (.ref l) H':=by
 constructor
 ·rintro⟨p,bs,h1,h2⟩;cases h1;exact⟨bs,h2⟩
 ·rintro⟨bs,h⟩;exact⟨a,bs,rfl,h⟩
def yqj {a:Addr}{lo hi:Option Int}:rSlS2 K (.ref a) lo hi H Q↔∃xs,SqT K H a xs∧¬ (HT.sIx xs.length 0 lo=0∧HT.sIx xs.length xs.length hi=xs.length)∧∀p H',H p=none->Same H H'->H' p=some (.tup (cutV xs lo hi))->Q (.ref p) H':=by
 constructor
 ·rintro⟨p,bs,h1,h2⟩;cases h1;exact⟨bs,h2⟩
 ·rintro⟨bs,h⟩;exact⟨a,bs,rfl,h⟩
end
def rSlLS (K:W.Frag):V->Option Int->Option Int->Hp->VK->Prop:=fun x lo hi H Q=>∃a xs,x=.ref a∧SqL K H a xs∧∀p H',H p=none->Same H H'->H' p=some (.lst (cutV xs lo hi))->Q (.ref p) H'
def nqh {X:Cx}{K:W.Frag}(h:X.K=K):SlR X (rSlLS K):=by
 subst h
 intro pins s σ H x v vl vu lo hi sl Q I rx hs pl pu h
 obtain⟨a,xs,h1,h2,h3⟩:=h
 exact tqW pins s σ H x v vl vu lo hi sl Q I rx hs pl pu ⟨a,xs,h1,h2,fun p hp=>h3 p _ hp (bqc hp) aqm⟩
def vqz {K:W.Frag}{H:Hp}{Q:VK}{a:Addr}{lo hi:Option Int}:rSlLS K (.ref a) lo hi H Q↔∃xs,SqL K H a xs∧∀p H',H p=none->Same H H'->H' p=some (.lst (cutV xs lo hi))->Q (.ref p) H':=by
 constructor
 ·rintro⟨p,bs,h1,h2⟩;cases h1;exact⟨bs,h2⟩
 ·rintro⟨bs,h⟩;exact⟨a,bs,rfl,h⟩
def rIsB (neg:Bool):R2:=fun x y H Q=>match x,y with
 |.bl b,.bl c=>Q (.bl (if neg then !decide (b=c) else decide (b=c))) H
 |_,_=>False
def AqM {b c:Bool}{H:Hp}{Q:VK}:(rIsB false (.bl b) (.bl c) H Q)=(Q (.bl (decide (b=c))) H):=rfl
end L2
namespace Wm
open PySem L2
def isSg (c:Nat):Bool:=decide (32≤c) && decide (c≤126) && !decide (c=37)
def SG:List Nat:=(List.range 127).filter isSg
def hexd (n:Nat):Nat:=if n < 10 then 48+n else 87+n
def fig (a:Nat):Option Nat:=if 48≤a∧a≤57 then some (a - 48) else if 97≤a∧a≤102 then some (a - 87) else if 65≤a∧a≤70 then some (a - 55) else none
def figV (a:Nat):V:=match fig a with|some n=>.int (n:Nat)|none=>.non
abbrev one (c:Nat):V:=.str ⟨#[c]⟩
def sgV (n:Nat):V:=if isSg n then one n else .non
def signOf (a b:Nat):V:=match fig a,fig b with|some h,some l=>sgV (h * 16+l)|_,_=>.non
def signOfL:List Nat->V
 |[a,b]=>signOf a b
 |_=>.non
def wqg {c:Nat}:c∈SG↔isSg c=true:=by
 unfold SG
 rw[mem_filter,mem_range]
 constructor
 ·exact fun h=>h.2
 ·intro h
  refine⟨?_,h⟩
  simp only[isSg,Bool.and_eq_true,decide_eq_true_eq] at h
  lia
def fqV {c:Nat}(h:isSg c=true):32≤c∧c≤126∧c≠37:=by
 simp only[isSg,Bool.and_eq_true,decide_eq_true_eq,Bool.not_eq_true',decide_eq_false_iff_not] at h
 lia
def xqA:∀n,n < 16->(Str.ofString "0123456789abcdef").cps.toList[n]?=some (hexd n):=by decide +kernel
def zqh {i:Int}{n:Nat}(e:i=(n:Int))(h:n < 16):atI (Str.ofString "0123456789abcdef").cps.toList i=some (hexd n):=by
 rw[e];exact aqs (xqA n h)
def oqY:(Str.ofString "0123456789abcdef").length≤sizeLine:=by decide +kernel
def vqG:∀a,a < 128->a∈(Str.ofString "0123456789abcdef").cps.toList ->
  Builtin.Str.occurrences (Str.ofString "0123456789abcdef") ⟨#[a]⟩ 0 (Str.ofString "0123456789abcdef").length 1=[(fig a).getD 0]∧(fig a).isSome=true:=by decide +kernel
def vqx:∀a,a < 128->¬ a∈(Str.ofString "0123456789abcdef").cps.toList->a∈(Str.ofString "0123456789ABCDEF").cps.toList ->
  Builtin.Str.occurrences (Str.ofString "0123456789ABCDEF") ⟨#[a]⟩ 0 (Str.ofString "0123456789ABCDEF").length 1=[(fig a).getD 0]∧(fig a).isSome=true:=by decide +kernel
def AqN:∀a,a < 128->¬ a∈(Str.ofString "0123456789abcdef").cps.toList->¬ a∈(Str.ofString "0123456789ABCDEF").cps.toList->fig a=none:=by decide +kernel
def uq3:∀n,n < 127->isSg n=true->(Str.ofString " !\"#$&'()*+,-./0123456789:;<=>?@ABCDEFGHIJKLMNOPQRSTUVWXYZ[\\]^_`abcdefghijklmnopqrstuvwxyz{|}~").cps.toList[n - 32 - (if 37 < n then 1 else 0)]?=some n:=by decide +kernel
def oq4:(Str.ofString " !\"#$&'()*+,-./0123456789:;<=>?@ABCDEFGHIJKLMNOPQRSTUVWXYZ[\\]^_`abcdefghijklmnopqrstuvwxyz{|}~").length≤sizeLine:=by decide +kernel
def wqE:SG.length=94:=by decide +kernel
theorem oqj (l:List Nat)(a:Nat):∀k,((List.range k).map fun j=>a+j).filterMap (fun i=>l[i]?)=(l.drop a).take k
 |0=>by simp
 |k+1=>by
  rw[range_succ,map_append,List.filterMap_append,oqj l a k,take_add_one,List.getElem?_drop]
  simp only[map_cons,map_nil]
  cases e:l[a+k]? with
  |none=>simp[e]
  |some c=>simp[e]
def clipI (n:Nat)(v:Int):Nat:=(max 0 (min (if v < 0 then v+n else v) n)).toNat
def vqb (a b:Nat):sliceRange (a:Int) (b:Int) 1=(List.range (b - a)).map fun j=>a+j:=by
 unfold sliceRange
 have h1:(1:Int) > 0:=by decide
 simp only[h1,if_true,Int.one_mul,Int.ediv_one]
 have e:(if (a:Int) < (b:Int) then (b:Int) - (a:Int)+1 - 1 else 0).toNat=b - a:=by split <;> lia
 rw[e]
 apply List.map_congr_left
 intro j _
 lia
theorem pqF (lo hi:Option Int)(n:Nat):Builtin.Str.strSliceIndices lo hi 1 n=(List.range ((hi.elim n (clipI n)) - (lo.elim 0 (clipI n)))).map fun j=>(lo.elim 0 (clipI n))+j:=by
 unfold Builtin.Str.strSliceIndices
 have h1:(1:Int) > 0:=by decide
 simp only[h1,if_true]
 rw[<- vqb]
 congr 1
 ·cases lo with
  |none=>rfl
  |some v=>simp only[Option.elim_some,clipI];lia
 ·cases hi with
  |none=>rfl
  |some v=>simp only[Option.elim_some,clipI];lia
theorem oq3 (l:List Nat)(lo hi:Option Int):Txt.slice (⟨l.toArray⟩:Str) lo hi=⟨((l.drop (lo.elim 0 (clipI l.length))).take ((hi.elim l.length (clipI l.length)) - (lo.elim 0 (clipI l.length)))).toArray⟩:=by
 have hl:(⟨l.toArray⟩:Str).length=l.length:=by simp[Str.length]
 have hb:hi.elim l.length (clipI l.length)≤l.length:=by
  cases hi with
  |none=>exact Nat.le_refl _
  |some v=>simp only[Option.elim_some,clipI];lia
 have ac:lo.elim 0 (clipI l.length)≤l.length:=by
  cases lo with
  |none=>exact Nat.zero_le _
  |some v=>simp only[Option.elim_some,clipI];lia
 have ef:(fun i:Nat=>(⟨l.toArray⟩:Str).cps[i]?)=fun i=>l[i]?:=by funext i;simp
 unfold Txt.slice
 rw[hl,pqF,ef]
 split
 ·rename_i h
  simp only[length_map,length_range,beq_self_eq_true,Bool.true_and,beq_iff_eq] at h
  have e1:lo.elim 0 (clipI l.length)=0:=by lia
  have e2:hi.elim l.length (clipI l.length)=l.length:=by lia
  rw[e1,e2]
  simp
 ·rw[oqj l (lo.elim 0 (clipI l.length)) ((hi.elim l.length (clipI l.length)) - (lo.elim 0 (clipI l.length)))]
def rqf (n k:Nat):clipI n (k:Int)=min k n:=by unfold clipI;split <;> lia
def vqY (l:List Nat)(k:Nat):Txt.slice (⟨l.toArray⟩:Str) none (some (k:Int))=⟨(l.take k).toArray⟩:=by
 rw[oq3]
 simp only[Option.elim_some,Option.elim_none,rqf,drop_zero,Nat.sub_zero]
 by_cases h:k≤l.length
 ·rw[Nat.min_eq_left h]
 ·rw[Nat.min_eq_right (by lia),take_length,take_of_length_le (by lia)]
def tqM (l:List Nat)(i j:Nat):Txt.slice (⟨l.toArray⟩:Str) (some (i:Int)) (some (j:Int))=⟨((l.drop i).take (j - i)).toArray⟩:=by
 rw[oq3]
 simp only[Option.elim_some,rqf]
 by_cases h:i≤l.length
 ·rw[Nat.min_eq_left h]
  by_cases h2:j≤l.length
  ·rw[Nat.min_eq_left h2]
  ·rw[Nat.min_eq_right (by lia:l.length≤j),take_of_length_le (by simp),take_of_length_le (by simp;lia)]
 ·rw[Nat.min_eq_right (by lia:l.length≤i),drop_eq_nil_of_le (Nat.le_refl _),drop_eq_nil_of_le (by lia)]
  simp
def zq5:Str.ofString ""=⟨([]:List Nat).toArray⟩:=by decide +kernel
theorem rqo (ys:List Str):Txt.join (⟨([]:List Nat).toArray⟩:Str) ys=⟨(ys.flatMap fun y=>y.cps.toList).toArray⟩:=by
 show Builtin.Str.glued _ _=_
 rw[StrLaws.glued_eq_join]
 induction ys with
 |nil=>rfl
 |cons y r ih=>
  cases r with
  |nil=>
   show y=_
   simp
  |cons z r=>
   show y++(⟨#[]⟩:Str)++Str.join ⟨#[]⟩ (z::r)=_
   rw[ih]
   show Str.mk (y.cps++#[]++_)=_
   simp[flatMap_cons]
def dqq (l m:List Nat):((⟨l.toArray⟩:Str)++(⟨m.toArray⟩:Str))=⟨(l++m).toArray⟩:=by
 show Str.mk (l.toArray++m.toArray)=_
 simp
def dqC {l m:List Nat}:((⟨l.toArray⟩:Str)=⟨m.toArray⟩)↔l=m:=by
 constructor
 ·intro h;injection h with h;injection h
 ·rintro rfl;rfl
def aqT (l:List Nat):(⟨l.toArray⟩:Str).length=l.length:=by simp[Str.length]
def vqE:Str.ofString "~"=⟨[126].toArray⟩:=by decide +kernel
def gqC {a n:Nat}(h:fig a=some n):figV a=.int (n:Nat):=by unfold figV;rw[h]
def lqT {a:Nat}(h:fig a=none):figV a=.non:=by unfold figV;rw[h]
def yqq {n:Nat}(h:isSg n=true):sgV n=one n:=by unfold sgV;rw[if_pos h]
def uqc {n:Nat}(h:¬ isSg n=true):sgV n=.non:=by unfold sgV;rw[if_neg h]
def xqV {n:Nat}(h1:32≤n)(h2:n≤126)(h3:n≠37):isSg n=true:=by
 simp only[isSg,Bool.and_eq_true,decide_eq_true_eq,Bool.not_eq_true',decide_eq_false_iff_not]
 lia
theorem sqs {l:List Nat}(h:l.length≠2):signOfL l=.non:=by
 match l with
 |[]=>rfl
 |[_]=>rfl
 |[_,_]=>exact absurd rfl h
 |_::_::_::_=>rfl
theorem yq7 {l:List Nat}(h:l.length=2):∃a b,l=[a,b]:=by
 match l,h with
 |[a,b],_=>exact⟨a,b,rfl⟩
def nqR (l:List Nat)(m k:Int)(h0:0 < k)(h:k≤l.length):∃a,a∈l∧atI l (m % k)=some a:=by
 have h1:=Int.emod_nonneg m (show k≠0 by lia)
 have h2:=Int.emod_lt_of_pos m h0
 have h3:(m % k).toNat < l.length:=by lia
 refine⟨l[(m % k).toNat],getElem_mem _,?_⟩
 have:=aqs (xs:=l) (j:=(m % k).toNat) (v:=l[(m % k).toNat]) (by simp[h3])
 rw[Int.toNat_of_nonneg h1] at this
 exact this
def isPl (c:Nat):Bool:=decide (48≤c∧c≤57) || decide (65≤c∧c≤90) || decide (97≤c∧c≤122) || decide (c=45) || decide (c=46) || decide (c=95)
def qq7:∀c,c < 128->(decide (c∈(Str.ofString "abcdefghijklmnopqrstuvwxyzABCDEFGHIJKLMNOPQRSTUVWXYZ0123456789-_.").cps.toList))=isPl c:=by decide +kernel
def wr1 (c:Nat):List Nat:=if isPl c then [c] else [126,hexd (c / 16),hexd (c % 16)]
def wr (l:List Nat):List Nat:=l.flatMap wr1
def sq3 (c:Nat):(wr1 c).length≤3:=by unfold wr1;split <;> simp
theorem kqu (l:List Nat):(wr l).length≤3 * l.length:=by
 induction l with
 |nil=>simp[wr]
 |cons c r ih=>
  have:=sq3 c
  unfold wr at ih ⊢
  rw[flatMap_cons,length_append,length_cons]
  lia
def sgO (a b:Nat):Option Nat:=match fig a,fig b with
 |some h,some l=>if isSg (h * 16+l) then some (h * 16+l) else none
 |_,_=>none
def oV:Option Nat->V
 |some c=>one c
 |none=>.non
theorem tqb (a b:Nat):signOf a b=oV (sgO a b):=by
 unfold signOf sgO
 cases fig a with
 |none=>rfl
 |some h=>
  cases fig b with
  |none=>rfl
  |some l=>
   simp only[sgV]
   split <;> rfl
def wq4 {c:Nat}(hc:isSg c=true):sgO (hexd (c / 16)) (hexd (c % 16))=some c:=by
 have l:=fqV hc
 have key:∀h,h < 16->fig (hexd h)=some h:=by decide +kernel
 unfold sgO
 rw[key _ (by lia),key _ (by lia)]
 have e:c / 16 * 16+c % 16=c:=by lia
 simp only[e,hc,if_true]
def wqX {ns:List Int}{k:Nat}(h:k < ns.length):atI (ns.map V.int) (k:Int)=some (.int (ns.getD k 0)):=by
 refine aqs ?_
 rw[List.getElem?_map,List.getElem?_eq_getElem h,List.getD_eq_getElem?_getD,List.getElem?_eq_getElem h]
 rfl
def aqq {n:Nat}(h:n≤100000):n≤sizeLine:=Nat.le_trans h (by decide)
def yqO (f:Nat->Nat)(l:List Nat):(l.toArray).map f=(l.map f).toArray:=by simp
def uqb (l:List Nat):(⟨l.toArray⟩:Str).cps.toList=l:=rfl
theorem rq4 (dn:List Nat):((dn.map fun c=>(⟨[c].toArray⟩:Str)).flatMap fun y=>y.cps.toList)=dn:=by
 induction dn with
 |nil=>rfl
 |cons c r ih=>rw[map_cons,flatMap_cons,ih];rfl
theorem tqS (dn:List Nat):((dn.map fun c=>(⟨[c].toArray⟩:Str)).map (·.length)).sum=dn.length:=by
 induction dn with
 |nil=>rfl
 |cons c r ih=>rw[map_cons,map_cons,sum_cons,ih,length_cons];show 1+_=_;lia
def xqQ (xs:List V)(m k:Int)(h0:0 < k)(h:k≤xs.length):∃a,a∈xs∧atI xs (m % k)=some a:=by
 have h1:=Int.emod_nonneg m (show k≠0 by lia)
 have h2:=Int.emod_lt_of_pos m h0
 have h3:(m % k).toNat < xs.length:=by lia
 refine⟨xs[(m % k).toNat],getElem_mem _,?_⟩
 have:=aqs (xs:=xs) (j:=(m % k).toNat) (v:=xs[(m % k).toNat]) (by simp[h3])
 rw[Int.toNat_of_nonneg h1] at this
 exact this
def hit (a b c:Nat):Bool:=decide ([hexd (c / 16),hexd (c % 16)]=[PyProof.Rows.lo1 a,PyProof.Rows.lo1 b])
mutual
def smallD:PyData->Bool
 |.str x=>decide (x.length≤100000)
 |.list xs=>decide (xs.length≤100000) && smallAll xs
 |.tuple xs=>decide (xs.length≤100000) && smallAll xs
 |.dict _=>false
 |.none=>true
 |.bool _=>true
 |.int _=>true
def smallAll:List PyData->Bool
 |[]=>true
 |d::ds=>smallD d && smallAll ds
end
theorem kqk:∀{ds:List PyData}{d:PyData},smallAll ds=true->d∈ds->smallD d=true
 |e::ds,d,h,hm=>by
  simp only[smallAll,Bool.and_eq_true] at h
  rcases mem_cons.mp hm with rfl|hm
  ·exact h.1
  ·exact kqk h.2 hm
theorem lqK:∀{ds:List PyData},(∀d∈ds,smallD d=true)->smallAll ds=true
 |[],_=>rfl
 |d::ds,h=>by
  simp only[smallAll,Bool.and_eq_true]
  exact⟨h d mem_cons_self,lqK fun e he=>h e (mem_cons_of_mem _ he)⟩
def fqx {x:Str}(h:smallD (.str x)=true):x.length≤100000:=by simpa [smallD] using h
def pqr {ds:List PyData}(h:ds.length≤100000)(h2:smallAll ds=true):smallD (.list ds)=true:=by simp[smallD,h,h2]
def isLet (c:Nat):Bool:=decide (65≤c∧c≤90) || decide (97≤c∧c≤122)
def isAln (c:Nat):Bool:=isLet c || decide (48≤c∧c≤57)
def Aqu:∀c,c < 128->(decide (c∈(Str.ofString "abcdefghijklmnopqrstuvwxyzABCDEFGHIJKLMNOPQRSTUVWXYZ").cps.toList))=isLet c:=by decide +kernel
def yq8:∀c,c < 128->(decide (c∈(Str.ofString "abcdefghijklmnopqrstuvwxyzABCDEFGHIJKLMNOPQRSTUVWXYZ0123456789").cps.toList))=isAln c:=by decide +kernel
def Aqj:(Str.ofString " !\"#$&'()*+,-./0123456789:;<=>?@ABCDEFGHIJKLMNOPQRSTUVWXYZ[\\]^_`abcdefghijklmnopqrstuvwxyz{|}~").cps.toList=SG:=by decide +kernel
def zqv (c:Nat):(decide (c∈(Str.ofString " !\"#$&'()*+,-./0123456789:;<=>?@ABCDEFGHIJKLMNOPQRSTUVWXYZ[\\]^_`abcdefghijklmnopqrstuvwxyz{|}~").cps.toList))=isSg c:=by
 rw[Aqj,Bool.eq_iff_iff,decide_eq_true_eq,wqg]
def tx:PyData->Bool
 |.str x=>x.cps.toList.all isSg
 |_=>false
def ftx:PyData->Bool
 |.str x=>x.cps.toList.all isSg && decide (0 < x.length)
 |_=>false
def schD:PyData->Bool
 |.str x=>x.cps.toList.all isSg && decide (x.length≤8) && (x.cps.toList.take 1).all isLet && x.cps.toList.all isAln
 |_=>false
abbrev st (l:List Nat):PyData:=.str ⟨l.toArray⟩
def oD:Option (List Nat)->PyData
 |none=>.none
 |some l=>st l
def otV:Option (List Nat)->V
 |none=>.non
 |some l=>.str ⟨l.toArray⟩
theorem uqw {H:Hp}(o:Option (List Nat)):IsT H (oD o) (otV o):=by
 cases o with
 |none=>exact .non
 |some x=>exact .str _
def iD:Option Int->PyData
 |none=>.none
 |some i=>.int i
def qD:Option (List (List Nat×Option (List Nat)))->PyData
 |none=>.none
 |some ps=>.tuple (ps.map fun p=>.tuple [st p.1,oD p.2])
structure Ad where
 scheme:List Nat
 house:Option (List Nat)
 door:Option Int
 rooted:Bool
 steps:List (List Nat)
 ends:Bool
 quest:Option (List (List Nat×Option (List Nat)))
 mark:Option (List Nat)
def Ad.way (x:Ad):PyData:=.tuple [.bool x.rooted,.tuple (x.steps.map st),.bool x.ends]
def Ad.data (x:Ad):PyData:=.tuple [st x.scheme,oD x.house,iD x.door,x.way,qD x.quest,oD x.mark]
def Tx (n:Nat)(l:List Nat):Prop:=l.length≤n∧∀c∈l,isSg c=true
structure Ad.Ok (x:Ad):Prop where
 sch:x.scheme.length≤8∧(∀c∈x.scheme,isAln c=true)∧∀c∈x.scheme.take 1,isLet c=true
 hou:∀l,x.house=some l->0 < l.length∧Tx 60 l
 doo:∀i,x.door=some i->(0≤i∧i≤65535)∧x.house≠none
 stp:x.steps.length≤50∧∀l∈x.steps,0 < l.length∧Tx 60 l
 roo:x.scheme≠[]∨x.house≠none->x.rooted=true
 end_:x.steps=[]->x.ends=x.rooted
 que:∀ps,x.quest=some ps->ps.length≤20∧∀p∈ps,(0 < p.1.length∧Tx 6 p.1)∧∀v,p.2=some v->Tx 6 v
 mar:∀l,x.mark=some l->Tx 60 l
def wqe {c:Nat}(h:isAln c=true):isSg c=true:=by
 simp only[isAln,isLet,Bool.or_eq_true,decide_eq_true_eq] at h
 simp only[isSg,Bool.and_eq_true,decide_eq_true_eq,Bool.not_eq_true',decide_eq_false_iff_not]
 lia
def uqe (l:List Nat):(⟨l.toArray⟩:Str).length=l.length:=aqT l
def itV:Option Int->V
 |none=>.non
 |some i=>.int i
theorem AqG {H:Hp}(o:Option Int):IsT H (iD o) (itV o):=by
 cases o with
 |none=>exact .non
 |some x=>exact .int _
def jqz {l:List Nat}:((⟨l.toArray⟩:Str)=⟨#[]⟩)↔l=[]:=dqC (m:=[])
def Bad (f:PyData->Bool)(H:Hp)(v:V):Prop:=∃d,Is H d v∧smallD d=true∧f d=false
def Bads (f:PyData->Bool)(H:Hp)(vs:List V):Prop:=∀v∈vs,Bad f H v
def Bads.cons {f:PyData->Bool}{H:Hp}{v:V}{vs:List V}(h:Bad f H v)(r:Bads f H vs):Bads f H (v::vs):=fun w hw=>by
 rcases mem_cons.mp hw with rfl|hw
 ·exact h
 ·exact r w hw
def jqA {q:Addr}{H H':Hp}{o:HO}(hq:H q=none)(sm:Same H H'):Same H (upd H' q o):=fun b u e=>by
 rw[aqp (aqn e hq)];exact sm _ _ e
def dg (i:Int):List Nat:=(Str.ofString (toString i)).cps.toList
def qqo {i:Int}(hi:0≤i):∀c∈dg i,48≤c∧c≤57:=by
 intro c hc
 obtain⟨n,rfl⟩:=Int.eq_ofNat_of_zero_le hi
 unfold dg at hc
 rw[PySem.W.KIN.signs_num,mem_map] at hc
 obtain⟨d,hd,rfl⟩:=hc
 have:=Nat.isDigit_of_mem_toDigits (by decide) (by decide) hd
 simp only[Char.isDigit,Bool.and_eq_true,decide_eq_true_eq] at this
 exact⟨this.1,this.2⟩
def wqk {i:Int}(hi:0≤i)(hi':i≤65535):(dg i).length≤5:=by
 have:=PyProof.Rows.toString_length_le hi (k:=5) (by decide) (by lia)
 simpa [dg,Str.length] using this
def Hd (p:Nat->Bool)(r:List Nat):Prop:=∀c r',r=c::r'->p c=true
def Hd.cons {p:Nat->Bool}{c:Nat}{r:List Nat}(h:p c=true):Hd p (c::r):=fun d r' e=>by injection e with e;exact e▸h
def wch (c:Nat):Bool:=isPl c || decide (c=126)
def sqV:∀n,n < 16->isPl (hexd n)=true:=by decide +kernel
def uq0 {l:List Nat}(h:∀c∈l,isSg c=true):∀c∈wr l,wch c=true:=by
 intro c hc
 unfold wr at hc
 obtain⟨d,hd,hc⟩:=List.mem_flatMap.mp hc
 have:=fqV (h d hd)
 unfold wr1 at hc
 split at hc
 ·next hp=>rw[mem_singleton] at hc;rw[hc,wch,hp];rfl
 ·simp only[mem_cons,not_mem_nil,or_false] at hc
  rcases hc with rfl|rfl|rfl
  ·rfl
  ·rw[wch,sqV _ (by lia)];rfl
  ·rw[wch,sqV _ (by lia)];rfl
def nqf {c:Nat}(h:wch c=true):c≠35∧c≠38∧c≠47∧c≠58∧c≠61∧c≠63:=by
 refine⟨?_,?_,?_,?_,?_,?_⟩ <;> (rintro rfl;revert h;decide +kernel)
def sqA {c:Nat}(h:isAln c=true):wch c=true:=by
 simp only[isAln,isLet,Bool.or_eq_true,decide_eq_true_eq] at h
 simp only[wch,isPl,Bool.or_eq_true,decide_eq_true_eq]
 lia
def tlT (sep:Nat):List (List Nat)->List Nat
 |[]=>[]
 |s::r=>sep::(s++tlT sep r)
def joinT (sep:Nat):List (List Nat)->List Nat
 |[]=>[]
 |s::r=>s++tlT sep r
theorem wqt {sep:Nat}{P:Nat->Prop}(hs:P sep):∀{a:List (List Nat)},(∀s∈a,∀c∈s,P c)->∀c∈tlT sep a,P c
 |[],_,c,hc=>by cases hc
 |s::a,h,c,hc=>by
  simp only[tlT,mem_cons,mem_append] at hc
  rcases hc with rfl|hc|hc
  ·exact hs
  ·exact h s (mem_cons_self ..) c hc
  ·exact wqt hs (fun t ht=>h t (mem_cons_of_mem _ ht)) c hc
theorem qq9 {sep:Nat}{P:Nat->Prop}(hs:P sep){a:List (List Nat)}(h:∀s∈a,∀c∈s,P c):∀c∈joinT sep a,P c:=by
 intro c hc
 match a with
 |[]=>cases hc
 |s::a=>
  simp only[joinT,mem_append] at hc
  rcases hc with hc|hc
  ·exact h s (mem_cons_self ..) c hc
  ·exact wqt hs (fun t ht=>h t (mem_cons_of_mem _ ht)) c hc
def oT (sep:Nat):Option (List Nat)->List Nat
 |none=>[]
 |some l=>sep::wr l
def pairT (p:List Nat×Option (List Nat)):List Nat:=wr p.1++oT 61 p.2
def queT:Option (List (List Nat×Option (List Nat)))->List Nat
 |none=>[]
 |some ps=>63::joinT 38 (ps.map pairT)
def wayT (r:Bool)(ss:List (List Nat))(e:Bool):List Nat:=(if r then [47] else [])++(joinT 47 (ss.map wr)++(if e && !ss.isEmpty then [47] else []))
def dooT:Option Int->List Nat
 |none=>[]
 |some i=>58::dg i
def houT:Option (List Nat)->List Nat
 |none=>[]
 |some l=>47::47::wr l
def schT (s:List Nat):List Nat:=if s=[] then [] else s++[58]
def Ad.wayT (x:Ad):List Nat:=Wm.wayT x.rooted x.steps x.ends
def Ad.shw (x:Ad):List Nat:=schT x.scheme++(houT x.house++(dooT x.door++(x.wayT++(queT x.quest++oT 35 x.mark))))
theorem sqZ {sep:Nat}{P:Nat->Prop}(hs:P sep)(hw:∀c,wch c=true->P c){o:Option (List Nat)}(h:∀l,o=some l->∀c∈l,isSg c=true):∀c∈oT sep o,P c:=by
 intro c hc
 cases o with
 |none=>cases hc
 |some l=>
  simp only[oT,mem_cons] at hc
  rcases hc with rfl|hc
  ·exact hs
  ·exact hw c (uq0 (h l rfl) c hc)
def PairOk (p:List Nat×Option (List Nat)):Prop:=(0 < p.1.length∧∀c∈p.1,isSg c=true)∧∀v,p.2=some v->∀c∈v,isSg c=true
def uqE {P:Nat->Prop}(hs:P 61)(hw:∀c,wch c=true->P c){p:List Nat×Option (List Nat)}(h:PairOk p):∀c∈pairT p,P c:=by
 intro c hc
 rcases mem_append.mp hc with hc|hc
 ·exact hw c (uq0 h.1.2 c hc)
 ·exact sqZ hs hw h.2 c hc
def StepOk (s:List Nat):Prop:=0 < s.length∧∀c∈s,isSg c=true
def stpT (ss:List (List Nat))(e:Bool):List Nat:=joinT 47 (ss.map wr)++(if e && !ss.isEmpty then [47] else [])
def uq7 (e:Bool):stpT [] e=[]:=by simp[stpT,joinT]
def uqa (r:Bool)(ss:List (List Nat))(e:Bool):wayT r ss e=(if r then [47] else [])++stpT ss e:=rfl
structure Ad.Wf (x:Ad):Prop where
 sch:x.scheme.length≤8∧(∀c∈x.scheme,isAln c=true)∧∀c∈x.scheme.take 1,isLet c=true
 hou:∀l,x.house=some l->(0 < l.length∧l.length≤60)∧∀c∈l,isSg c=true
 doo:∀i,x.door=some i->(0≤i∧i≤65535)∧x.house≠none
 stp:∀s∈x.steps,StepOk s
 roo:x.scheme≠[]∨x.house≠none->x.rooted=true
 end_:x.steps=[]->x.ends=x.rooted
 que:∀ps,x.quest=some ps->∀p∈ps,PairOk p
 mar:∀l,x.mark=some l->∀c∈l,isSg c=true
def Ad.mid (x:Ad):List Nat:=houT x.house++(dooT x.door++x.wayT)
def Ad.pre (x:Ad):List Nat:=schT x.scheme++x.mid
def Ad.shw_eq (x:Ad):x.shw=(x.pre++queT x.quest)++oT 35 x.mark:=by simp[Ad.shw,Ad.pre,Ad.mid]
def yqA {P:Nat->Prop}(hs:P 47)(hw:∀c,wch c=true->P c){ss:List (List Nat)}{e:Bool}(h:∀s∈ss,StepOk s):∀c∈stpT ss e,P c:=by
 intro c hc
 rcases mem_append.mp hc with hc|hc
 ·refine qq9 hs (fun s hs' d hd=>?_) c hc
  obtain⟨t,ht,rfl⟩:=mem_map.mp hs'
  exact hw d (uq0 (h t ht).2 d hd)
 ·split at hc
  ·rw[mem_singleton.mp hc];exact hs
  ·cases hc
def tqy {P:Nat->Prop}(hs:P 47)(hw:∀c,wch c=true->P c){r:Bool}{ss:List (List Nat)}{e:Bool}(h:∀s∈ss,StepOk s):∀c∈wayT r ss e,P c:=by
 intro c hc
 rw[uqa] at hc
 rcases mem_append.mp hc with hc|hc
 ·split at hc
  ·rw[mem_singleton.mp hc];exact hs
  ·cases hc
 ·exact yqA hs hw h c hc
def yqX {c:Nat}(h:48≤c∧c≤57):wch c=true:=by
 simp only[wch,isPl,Bool.or_eq_true,decide_eq_true_eq];lia
theorem Ad.Wf.pre_all {P:Nat->Prop}{x:Ad}(h:x.Wf)(h1:P 47)(h2:P 58)(hw:∀c,wch c=true->P c):∀c∈x.pre,P c:=by
 intro c hc
 rcases mem_append.mp hc with hc|hc
 ·unfold schT at hc
  split at hc
  ·cases hc
  ·rcases mem_append.mp hc with hc|hc
   ·exact hw c (sqA (h.sch.2.1 c hc))
   ·rw[mem_singleton.mp hc];exact h2
 rcases mem_append.mp hc with hc|hc
 ·cases hh:x.house with
  |none=>rw[hh] at hc;cases hc
  |some l=>
   rw[hh] at hc
   simp only[houT,mem_cons] at hc
   rcases hc with rfl|rfl|hc
   ·exact h1
   ·exact h1
   ·exact hw c (uq0 (h.hou l hh).2 c hc)
 rcases mem_append.mp hc with hc|hc
 ·cases hd:x.door with
  |none=>rw[hd] at hc;cases hc
  |some i=>
   rw[hd] at hc
   simp only[dooT,mem_cons] at hc
   rcases hc with rfl|hc
   ·exact h2
   ·exact hw c (yqX (qqo (h.doo i hd).1.1 c hc))
 ·exact tqy h1 hw h.stp c hc
def tqp (l m:List Nat):PyData.eqv (st l) (st m)=true↔l=m:=by
 simp only[PyData.eqv,beq_iff_eq];exact dqC
theorem tqt (a b:Option (List Nat)):PyData.eqv (oD a) (oD b)=true↔a=b:=by
 match a,b with
 |none,none=>simp[oD,PyData.eqv]
 |none,some m=>simp[oD,PyData.eqv]
 |some l,none=>simp[oD,PyData.eqv]
 |some l,some m=>exact (tqp l m).trans (by simp)
theorem zqQ (a b:Option Int):PyData.eqv (iD a) (iD b)=true↔a=b:=by
 match a,b with
 |none,none=>simp[iD,PyData.eqv]
 |none,some m=>simp[iD,PyData.eqv]
 |some l,none=>simp[iD,PyData.eqv]
 |some l,some m=>simp[iD,PyData.eqv]
theorem hqR {α:Type}{f:α->PyData}(hf:∀a b,PyData.eqv (f a) (f b)=true↔a=b):∀(l m:List α),PyData.eqvAll (l.map f) (m.map f)=true↔l=m
 |[],[]=>by simp[PyData.eqvAll]
 |[],b::m=>by simp[PyData.eqvAll]
 |a::l,[]=>by simp[PyData.eqvAll]
 |a::l,b::m=>by
  simp only[map_cons,PyData.eqvAll,Bool.and_eq_true,List.cons.injEq]
  rw[hf a b,hqR hf l m]
theorem AqE (a b:Option (List (List Nat×Option (List Nat)))):PyData.eqv (qD a) (qD b)=true↔a=b:=by
 match a,b with
 |none,none=>simp[qD,PyData.eqv]
 |none,some m=>simp[qD,PyData.eqv]
 |some l,none=>simp[qD,PyData.eqv]
 |some l,some m=>
  simp only[qD,PyData.eqv,Option.some.injEq]
  refine hqR (fun a b=>?_) l m
  simp only[PyData.eqv,PyData.eqvAll,Bool.and_eq_true,Bool.and_true]
  rw[tqt,beq_iff_eq]
  exact⟨fun h=>Prod.ext (dqC.mp h.1) h.2,fun h=>by rw[h];exact⟨rfl,rfl⟩⟩
def yqp (x y:Ad):PyData.eqv x.way y.way=true↔x.rooted=y.rooted∧x.steps=y.steps∧x.ends=y.ends:=by
 simp only[Ad.way,PyData.eqv,PyData.eqvAll,Bool.and_eq_true,Bool.and_true,beq_iff_eq]
 rw[hqR tqp]
def Ad.eqv_iff (x y:Ad):PyData.eqv x.data y.data=true↔x=y:=by
 simp only[Ad.data,PyData.eqv,PyData.eqvAll,Bool.and_eq_true,Bool.and_true,beq_iff_eq]
 rw[tqt,zqQ,yqp,AqE,tqt]
 cases x;cases y
 simp only[Ad.mk.injEq]
 constructor
 ·rintro⟨h1,h2,h3,⟨h4,h5,h6⟩,h7,h8⟩
  exact⟨dqC.mp h1,h2,h3,h4,h5,h6,h7,h8⟩
 ·rintro⟨h1,h2,h3,h4,h5,h6,h7,h8⟩
  exact⟨by rw[h1],h2,h3,⟨h4,h5,h6⟩,h7,h8⟩
def LayAt (n:Nat)(d:PyData):Prop:=d.canLay0=true∧d.depth≤n
def LayAt.shaped {n:Nat}{d:PyData}(h:LayAt n d)(hn:n≤64):SeqAt.shaped d=true:=by
 unfold SeqAt.shaped;rw[h.1,decide_eq_true (Nat.le_trans h.2 hn)];rfl
def LayAt.le {n m:Nat}{d:PyData}(h:LayAt n d)(hn:n≤m):LayAt m d:=⟨h.1,Nat.le_trans h.2 hn⟩
theorem layAll {n:Nat}:∀{ds:List PyData},(∀d∈ds,LayAt n d)->PyData.canLayAll0 ds=true∧PyData.depthAll ds≤n
 |[],_=>⟨rfl,Nat.zero_le _⟩
 |d::ds,h=>by
  obtain⟨h1,h2⟩:=layAll (ds:=ds) fun e he=>h e (mem_cons_of_mem _ he)
  have:=h d (mem_cons_self ..)
  simp only[PyData.canLayAll0,PyData.depthAll,this.1,h1,Bool.and_self,true_and]
  exact Nat.max_le.mpr ⟨this.2,h2⟩
def LayAt.tup {n:Nat}{ds:List PyData}(h:∀d∈ds,LayAt n d):LayAt (n+1) (.tuple ds):=by
 obtain⟨h1,h2⟩:=layAll h
 exact⟨by simp only[PyData.canLay0,h1],by simp only[PyData.depth];lia⟩
def LayAt.st {l:List Nat}(h:∀c∈l,isSg c=true):LayAt 0 (st l):=by
 refine⟨?_,Nat.le_refl _⟩
 simp only[PyData.canLay0,PyData.strOk,List.all_toArray,all_eq_true,decide_eq_true_eq]
 intro c hc
 have:=fqV (h c hc)
 lia
def LayAt.bool {b:Bool}:LayAt 0 (.bool b):=⟨rfl,Nat.le_refl _⟩
theorem LayAt.oD {o:Option (List Nat)}(h:∀l,o=some l->∀c∈l,isSg c=true):LayAt 0 (oD o):=by
 cases o with
 |none=>exact⟨rfl,Nat.le_refl _⟩
 |some l=>exact .st (h l rfl)
theorem LayAt.iD {o:Option Int}:LayAt 0 (iD o):=by
 cases o with
 |none=>exact⟨rfl,Nat.le_refl _⟩
 |some l=>exact⟨rfl,Nat.le_refl _⟩
theorem LayAt.qD {q:Option (List (List Nat×Option (List Nat)))}(h:∀ps,q=some ps->∀p∈ps,PairOk p):LayAt 2 (qD q):=by
 cases q with
 |none=>exact⟨rfl,Nat.zero_le _⟩
 |some ps=>
  refine .tup (n:=1) fun d hd=>?_
  obtain⟨p,hp,rfl⟩:=mem_map.mp hd
  have hk:=h ps rfl p hp
  refine .tup (n:=0) fun e he=>?_
  simp only[mem_cons,not_mem_nil,or_false] at he
  rcases he with rfl|rfl
  ·exact .st hk.1.2
  ·exact .oD hk.2
def Ad.Wf.layWay {x:Ad}(h:x.Wf):LayAt 2 x.way:=by
 refine .tup (n:=1) fun e he=>?_
 simp only[mem_cons,not_mem_nil,or_false] at he
 rcases he with rfl|rfl|rfl
 ·exact LayAt.bool.le (by decide)
 ·refine .tup (n:=0) fun d hd=>?_
  obtain⟨s,hs,rfl⟩:=mem_map.mp hd
  exact .st (h.stp s hs).2
 ·exact LayAt.bool.le (by decide)
def Ad.Wf.lay {x:Ad}(h:x.Wf):LayAt 3 x.data:=by
 refine .tup (n:=2) fun e he=>?_
 simp only[mem_cons,not_mem_nil,or_false] at he
 rcases he with rfl|rfl|rfl|rfl|rfl|rfl
 ·exact (LayAt.st fun c hc=>wqe (h.sch.2.1 c hc)).le (by decide)
 ·exact (LayAt.oD fun l e=>(h.hou l e).2).le (by decide)
 ·exact LayAt.iD.le (by decide)
 ·exact h.layWay
 ·exact .qD h.que
 ·exact (LayAt.oD h.mar).le (by decide)
def Ad.Wf.shaped {x:Ad}(h:x.Wf):SeqAt.shaped x.data=true:=h.lay.shaped (by decide)
def wqb {H:Hp}{l:List Nat}{v:V}(h:IsT H (st l) v):v=.str ⟨l.toArray⟩:=by cases h;rfl
theorem wqv {H:Hp}{o:Option (List Nat)}{v:V}(h:IsT H (oD o) v):v=otV o:=by
 cases o with
 |none=>cases h;rfl
 |some l=>exact wqb h
theorem Aqh {H:Hp}{o:Option Int}{v:V}(h:IsT H (iD o) v):v=itV o:=by
 cases o with
 |none=>cases h;rfl
 |some l=>cases h;rfl
theorem yqK {H:Hp}{ds:List PyData}{v:V}(h:IsT H (.tuple ds) v):∃p xs,v=.ref p∧H p=some (.tup xs)∧IsTAll H ds xs:=by
 cases h with
 |tup h1 h2=>exact⟨_,_,rfl,h1,h2⟩
theorem isT6 {H:Hp}{a b c d e f:PyData}{v:V}(h:IsT H (.tuple [a,b,c,d,e,f]) v):∃p x0 x1 x2 x3 x4 x5,v=.ref p∧H p=some (.tup [x0,x1,x2,x3,x4,x5])∧IsT H a x0∧IsT H b x1∧IsT H c x2∧IsT H d x3∧IsT H e x4∧IsT H f x5:=by
 obtain⟨p,xs,rfl,hp,r⟩:=yqK h
 cases r with
 |cons h1 r=>cases r with
  |cons h2 r=>cases r with
   |cons h3 r=>cases r with
    |cons h4 r=>cases r with
     |cons h5 r=>cases r with
      |cons h6 r=>cases r;exact⟨p,_,_,_,_,_,_,rfl,hp,h1,h2,h3,h4,h5,h6⟩
end Wm
namespace Wm
structure Ad.Sz (x:Ad):Prop where
 stp:∀s∈x.steps,s.length≤2000
 que:∀ps,x.quest=some ps->ps.length≤2000∧∀p∈ps,p.1.length≤2000∧∀v,p.2=some v->v.length≤2000
 mar:∀l,x.mark=some l->l.length≤2000
 num:x.steps.length≤2000
 all:x.shw.length≤90000
def lg {i:Int}(h:0≤i)(h':i≤65535):i.natAbs.log2 < 1920:=by
 by_cases h0:i.natAbs=0
 ·rw[h0];simp
 ·refine (Nat.log2_lt h0).mpr (Nat.lt_of_lt_of_le (show i.natAbs < 2 ^ 16 by lia) (Nat.pow_le_pow_right (by decide) (by decide)))
def wql (i:Int):PySem.Str.ofString (toString i)=⟨(dg i).toArray⟩:=rfl
end Wm
namespace Wm
open PySem L2
theorem qqH (sep:Nat)(ys:List (List Nat)):Txt.join (⟨[sep].toArray⟩:Str) (ys.map fun l=>(⟨l.toArray⟩:Str))=⟨(joinT sep ys).toArray⟩:=by
 show Builtin.Str.glued _ _=_
 rw[StrLaws.glued_eq_join]
 induction ys with
 |nil=>rfl
 |cons y r ih=>
  cases r with
  |nil=>
   show (⟨y.toArray⟩:Str)=_
   simp[joinT,tlT]
  |cons z r=>
   show (⟨y.toArray⟩:Str)++(⟨[sep].toArray⟩:Str)++Str.join ⟨[sep].toArray⟩ ((z::r).map fun l=>(⟨l.toArray⟩:Str))=_
   rw[ih,dqq,dqq]
   simp[joinT,tlT]
theorem wqx {sep:Nat}:∀(ys:List (List Nat)),(tlT sep ys).length=(ys.map (·.length)).sum+ys.length
 |[]=>rfl
 |y::r=>by simp only[tlT,length_cons,length_append,map_cons,sum_cons,wqx r];lia
theorem qqJ {sep:Nat}(ys:List (List Nat)):(ys.map (·.length)).sum+ys.length≤(joinT sep ys).length+1:=by
 cases ys with
 |nil=>simp[joinT]
 |cons y r=>simp only[joinT,length_append,map_cons,sum_cons,length_cons,wqx];lia
theorem rqm {sep m:Nat}:∀{ys:List (List Nat)},(∀s∈ys,s.length≤m)->(tlT sep ys).length≤ys.length * (m+1)
 |[],_=>by simp[tlT]
 |y::r,h=>by
  have h1:=h y (mem_cons_self ..)
  have h2:=rqm (sep:=sep) (ys:=r) fun s hs=>h s (mem_cons_of_mem _ hs)
  simp only[tlT,length_cons,length_append,Nat.add_mul,Nat.one_mul]
  lia
theorem sqb {sep m:Nat}{ys:List (List Nat)}(h:∀s∈ys,s.length≤m):(joinT sep ys).length≤ys.length * (m+1):=by
 cases ys with
 |nil=>simp[joinT]
 |cons y r=>
  have h1:=h y (mem_cons_self ..)
  have h2:=rqm (sep:=sep) (ys:=r) fun s hs=>h s (mem_cons_of_mem _ hs)
  simp only[joinT,length_cons,length_append,Nat.add_mul,Nat.one_mul]
  lia
theorem wqu {sep n:Nat}{o:Option (List Nat)}(h:∀l,o=some l->l.length≤n):(oT sep o).length≤3 * n+1:=by
 cases o with
 |none=>simp[oT]
 |some l=>have:=h l rfl;have:=kqu l;simp only[oT,length_cons];lia
def tqF (ts:List (List Nat)):(ts.map fun l=>(⟨l.toArray⟩:Str)).map (·.length)=ts.map List.length:=by
 rw[map_map]
 apply List.map_congr_left
 intro l _
 exact aqT l
def AqT {a:V}{r:List V}:atI (a::r) 0=some a:=by
 unfold atI ixN
 simp
def slT (r:Bool)(ts:List (List Nat))(e:Bool):List Nat:=(if r then [47] else [])++(joinT 47 ts++(if e && !ts.isEmpty then [47] else []))
def xqe (r:Bool)(ss:List (List Nat))(e:Bool):wayT r ss e=slT r (ss.map wr) e:=by
 unfold wayT slT
 simp
end Wm
namespace L2
open PySem
end L2
namespace Wm
open PySem L2
abbrev Stp:=List Nat
def sUp:Stp:=[46,46]
def sStay:Stp:=[46]
def isDot (s:Stp):Bool:=decide (s=sUp) || decide (s=sStay)
def lqS {s:Stp}:isDot s=false↔s≠sUp∧s≠sStay:=by simp[isDot]
def fwd (r:Bool)(q:Nat×List Stp)(s:Stp):Nat×List Stp:=
 if s=sUp then (match q.2 with|[]=>(if r then q.1 else q.1+1,[])|_::t=>(q.1,t))
 else if s=sStay then q else (q.1,s::q.2)
def goneS (r:Bool)(ss:List Stp):List Stp:=List.replicate (ss.foldl (fwd r) (0,[])).1 sUp++(ss.foldl (fwd r) (0,[])).2.reverse
def lastDot (ss:List Stp):Bool:=match ss.getLast? with|some s=>isDot s|none=>false
def goneW (r:Bool)(ss:List Stp)(e:Bool):Bool×List Stp×Bool:=
 if ss=[] then (r,[],e) else if goneS r ss=[] then (r,if r then [] else [sStay],true) else (r,goneS r ss,e || lastDot ss)
def stk (q:Nat×List Stp):List Stp:=List.replicate q.1 sUp++q.2.reverse
end Wm
namespace L2
open PySem PySem.Spec PyProof.Rows HT
section
variable {prog:Program}{w:World}{A:Around}{E:Value->Shared->Prop}{s:Shared}
theorem iqR {t sl:Addr}{items:Array Value}{vl vu:Value}{lo hi:Option Int}{Q:Value->Shared->Prop}(ht:IsTup s.heap t items)(hs:s.heap.IsSliceOf sl vl vu .none)(pl:IsPart vl lo)(pu:IsPart vu hi)
  (hw:sIx items.size 0 lo=0∧sIx items.size items.size hi=items.size) (h:Q (.ref t) s):wpAny (model prog w) A (getItem (.ref t) (.ref sl)) Q E s:=by
 obtain⟨os,ac,ad,af⟩:=id hs
 have ae:s.TypeIs (.ref sl) "slice" := ⟨os,ac,ad⟩
 unfold getItem
 try with_reducible refine wpAny_holding ?_
 first|refine wpAny_bind (wpAny_pure ?_)|skip
 refine wpAny_bind (wpAny_sequenceKey ht.typeIs (by decide) ?_)
 refine wpAny_bind (wpAny_callSpecial?_slot (name:=Str.ofString "__getitem__") ht.typeIs PyProof.Rows.slot_tuple_getitem
  (wpAny_call_entry PyProof.Rows.slot_tuple_getitem ht.typeIs entry_tuple_getitem ?_ (args_tuple_getitem _ _)))
 show wpAny _ _ (Builtin.Tuple.tupleItemsOf (.ref t) >>= _) _ _ s
 refine wpAny_bind (tupleItemsOf_ ht ?_)
 refine wpAny_bind (wpAny_typeOf ae ?_)
 rw[if_pos (by decide)]
 refine wpAny_bind (gqw hs pl pu ?_)
 show wpAny _ _ (if (((sIx items.size 0 lo:Nat):Int) == 0 && (1:Int) == 1 && (sIx items.size items.size hi - sIx items.size 0 lo) == items.size)=true then _ else _) _ _ s
 rw[if_pos (by rw[hw.1,hw.2];simp)]
 refine wpAny_bind ?_
 show wpAny _ _ (typeOf (.ref t) >>= _) _ _ s
 refine wpAny_bind (wpAny_typeOf ht.typeIs (wpAny_pure ?_))
 rw[if_pos (by decide)]
 exact wpAny_bind (wpAny_rule (wpAny_pure ⟨_,rfl,wpAny_pure h⟩))
end
section
variable {X:Cx}{K:W.Frag}
def rSlTA:V->Option Int->Option Int->Hp->VK->Prop:=fun x lo hi H Q=>∃a xs,x=.ref a∧H a=some (.tup xs)∧∀p H',Same H H'->H' p=some (.tup (cutV xs lo hi))->Q (.ref p) H'
def rqI {xs:List V}{lo hi:Option Int}(h:sIx xs.length 0 lo=0∧sIx xs.length xs.length hi=xs.length):cutV xs lo hi=xs:=by
 unfold cutV
 rw[h.1,h.2,drop_zero,Nat.sub_zero,take_length]
theorem lqG:SlR X rSlTA:=by
 intro ac s σ H x v vl vu lo hi sl Q I rx hs pl pu h
 obtain⟨a,xs,rfl,hx,q⟩:=h
 by_cases hw:sIx xs.length 0 lo=0∧sIx xs.length xs.length hi=xs.length
 ·cases rx
  obtain⟨ae,r,ht,hz⟩:=I.tuple (SqT.of hx)
  have ad:ae.toArray.size=xs.length:=by rw[size_toArray];exact r.length.symm
  refine⟨"tuple",_,PyProof.Rows.slot_tuple_getitem.lookup,ht.typeIs,?_⟩
  exact iqR ht hs pl pu (by rw[ad];exact hw) ⟨.ref a,H,I,rfl,q a H (Same.refl _) (by rw[rqI hw];exact hx)⟩
 ·exact zqU ac s σ H _ v vl vu lo hi sl Q I rx hs pl pu ⟨a,xs,rfl,SqT.of hx,hw,fun p hp=>q p _ (bqc hp) aqm⟩
def vqS {a:Addr}{lo hi:Option Int}{H:Hp}{Q:VK}:rSlTA (.ref a) lo hi H Q↔∃xs,H a=some (.tup xs)∧∀p H',Same H H'->H' p=some (.tup (cutV xs lo hi))->Q (.ref p) H':=by
 constructor
 ·rintro⟨p,bs,h1,h2⟩;cases h1;exact⟨bs,h2⟩
 ·rintro⟨bs,h⟩;exact⟨a,bs,rfl,h⟩
end
mutual
inductive IsK (K:W.Frag)(H:Hp):PyData->V->Prop
 |non:IsK K H .none .non
 |bl (b:Bool):IsK K H (.bool b) (.bl b)
 |int (i:Int):IsK K H (.int i) (.int i)
 |str (x:Str):IsK K H (.str x) (.str x)
 |tup {p:Addr}{xs:List V}{ds:List PyData}:SqT K H p xs->IsKAll K H ds xs->IsK K H (.tuple ds) (.ref p)
inductive IsKAll (K:W.Frag)(H:Hp):List PyData->List V->Prop
 |nil:IsKAll K H [] []
 |cons {d:PyData}{x:V}{ds:List PyData}{xs:List V}:IsK K H d x->IsKAll K H ds xs->IsKAll K H (d::ds) (x::xs)
end
section
variable {K:W.Frag}{H H':Hp}
mutual
theorem IsK.mono (sm:Same H H'):∀{d:PyData}{x:V},IsK K H d x->IsK K H' d x
 |_,_,.non=>.non
 |_,_,.bl b=>.bl b
 |_,_,.int i=>.int i
 |_,_,.str x=>.str x
 |_,_,.tup h r=>.tup (sm.tup h) (IsKAll.mono sm r)
theorem IsKAll.mono (sm:Same H H'):∀{ds:List PyData}{xs:List V},IsKAll K H ds xs->IsKAll K H' ds xs
 |_,_,.nil=>.nil
 |_,_,.cons h r=>.cons (IsK.mono sm h) (IsKAll.mono sm r)
end
mutual
theorem IsT.k:∀{d:PyData}{x:V},IsT H d x->IsK K H d x
 |_,_,.non=>.non
 |_,_,.bl b=>.bl b
 |_,_,.int i=>.int i
 |_,_,.str x=>.str x
 |_,_,.tup h r=>.tup (SqT.of h) (IsTAll.k r)
theorem IsTAll.k:∀{ds:List PyData}{xs:List V},IsTAll H ds xs->IsKAll K H ds xs
 |_,_,.nil=>.nil
 |_,_,.cons h r=>.cons (IsT.k h) (IsTAll.k r)
end
end
section
variable {X:Cx}{pins:List (Addr×Obj)}{σ:St}{H:Hp}{s:Shared}
mutual
theorem IsK.reads (I:Inv X pins σ H s):∀{d:PyData}{x:V}{v:Value},IsK X.K H d x->RelV x v->∃as,Reads s.heap v d as
 |_,_,_,.non,r=>by cases r;exact⟨_,.none⟩
 |_,_,_,.bl b,r=>by cases r;exact⟨_,.bool b⟩
 |_,_,_,.int i,r=>by obtain⟨t,rfl⟩:=r;exact⟨_,.int i t⟩
 |_,_,_,.str x,r=>by obtain⟨t,rfl⟩:=r;exact⟨_,.str x t⟩
 |_,_,_,.tup h q,r=>by
  cases r
  obtain⟨its,vs,⟨o,e,c,n,dt⟩,_⟩:=I.tuple h
  obtain⟨as,ra⟩:=IsKAll.reads I q vs
  exact⟨_,.tuple e c dt (by simpa using ra)⟩
theorem IsKAll.reads (I:Inv X pins σ H s):∀{ds:List PyData}{xs:List V}{vs:List Value},IsKAll X.K H ds xs->Vals xs vs->∃as,ReadsAll s.heap vs ds as
 |_,_,_,.nil,r=>by cases r;exact⟨_,.nil⟩
 |_,_,_,.cons q t,r=>by
  cases r with
  |cons r1 r2=>
   obtain⟨as,h1⟩:=IsK.reads I q r1
   obtain⟨bs,h2⟩:=IsKAll.reads I t r2
   exact⟨_,.cons h1 h2⟩
end
variable {K:W.Frag}
def rSlX (K:W.Frag):V->Option Int->Option Int->Hp->VK->Prop:=fun x lo hi H Q=>∃a xs,x=.ref a∧SqT K H a xs∧∀p H',Same H H'->SqT K H' p (cutV xs lo hi)->Q (.ref p) H'
def xqg {a:Addr}{lo hi:Option Int}{H:Hp}{Q:VK}:rSlX K (.ref a) lo hi H Q↔∃xs,SqT K H a xs∧∀p H',Same H H'->SqT K H' p (cutV xs lo hi)->Q (.ref p) H':=by
 constructor
 ·rintro⟨p,bs,h1,h2⟩;cases h1;exact⟨bs,h2⟩
 ·rintro⟨bs,h⟩;exact⟨a,bs,rfl,h⟩
def rCatX (K:W.Frag):R2:=fun x y H Q=>∃a b xs ys,x=.ref a∧y=.ref b∧SqT K H a xs∧SqT K H b ys∧xs.length+ys.length≤sizeLine∧∀p H',Same H H'->SqT K H' p (xs++ys)->Q (.ref p) H'
def vqt {a b:Addr}{H:Hp}{Q:VK}:rCatX K (.ref a) (.ref b) H Q↔∃xs ys,SqT K H a xs∧SqT K H b ys∧xs.length+ys.length≤sizeLine∧∀p H',Same H H'->SqT K H' p (xs++ys)->Q (.ref p) H':=by
 constructor
 ·rintro⟨p,p',xs,ys,h1,h2,h3⟩;cases h1;cases h2;exact⟨xs,ys,h3⟩
 ·rintro⟨xs,ys,h⟩;exact⟨a,b,xs,ys,rfl,rfl,h⟩
def KindK (K:W.Frag)(H:Hp)(x:V)(k:String):Prop:=kindV x H=some k∨∃a xs,x=.ref a∧SqT K H a xs∧k = "tuple"
def KindK.tup {K:W.Frag}{H:Hp}{a:Addr}{xs:List V}(h:SqT K H a xs):KindK K H (.ref a) "tuple" := .inr ⟨a,xs,rfl,h,rfl⟩
def rIsiX (K:W.Frag):List V->Hp->VK->Prop:=fun vs H Q=>match vs with
 |[x,.ty T]=>∃k,KindK K H x k∧T∈["bool","int","str","list","tuple"]∧Q (.bl (subT k T)) H
 |_=>False
def vqP {x:V}{T:String}{H:Hp}{Q:VK}:(rIsiX K [x,.ty T] H Q)=(∃k,KindK K H x k∧T∈["bool","int","str","list","tuple"]∧Q (.bl (subT k T)) H):=rfl
end
end L2
namespace Wm
open PySem L2
section
variable {K:W.Frag}{H:Hp}
def qqq {l:List Nat}{v:V}(h:IsK K H (st l) v):v=.str ⟨l.toArray⟩:=by cases h;rfl
theorem tqj {o:Option (List Nat)}{v:V}(h:IsK K H (oD o) v):v=otV o:=by
 cases o with
 |none=>cases h;rfl
 |some l=>exact qqq h
theorem yq4 {o:Option Int}{v:V}(h:IsK K H (iD o) v):v=itV o:=by
 cases o with
 |none=>cases h;rfl
 |some l=>cases h;rfl
def qqu {b:Bool}{v:V}(h:IsK K H (.bool b) v):v=.bl b:=by cases h;rfl
theorem lqQ {ds:List PyData}{v:V}(h:IsK K H (.tuple ds) v):∃p xs,v=.ref p∧SqT K H p xs∧IsKAll K H ds xs:=by
 cases h with
 |tup h1 h2=>exact⟨_,_,rfl,h1,h2⟩
theorem isK2 {a b:PyData}{v:V}(h:IsK K H (.tuple [a,b]) v):∃p x y,v=.ref p∧SqT K H p [x,y]∧IsK K H a x∧IsK K H b y:=by
 obtain⟨p,xs,rfl,hp,r⟩:=lqQ h
 cases r with
 |cons h1 r=>cases r with
  |cons h2 r=>cases r;exact⟨p,_,_,rfl,hp,h1,h2⟩
theorem isK3 {a b c:PyData}{v:V}(h:IsK K H (.tuple [a,b,c]) v):∃p x y z,v=.ref p∧SqT K H p [x,y,z]∧IsK K H a x∧IsK K H b y∧IsK K H c z:=by
 obtain⟨p,xs,rfl,hp,r⟩:=lqQ h
 cases r with
 |cons h1 r=>cases r with
  |cons h2 r=>cases r with
   |cons h3 r=>cases r;exact⟨p,_,_,_,rfl,hp,h1,h2,h3⟩
theorem isK6 {a b c d e f:PyData}{v:V}(h:IsK K H (.tuple [a,b,c,d,e,f]) v):∃p x0 x1 x2 x3 x4 x5,v=.ref p∧SqT K H p [x0,x1,x2,x3,x4,x5]∧IsK K H a x0∧IsK K H b x1∧IsK K H c x2∧IsK K H d x3∧IsK K H e x4∧IsK K H f x5:=by
 obtain⟨p,xs,rfl,hp,r⟩:=lqQ h
 cases r with
 |cons h1 r=>cases r with
  |cons h2 r=>cases r with
   |cons h3 r=>cases r with
    |cons h4 r=>cases r with
     |cons h5 r=>cases r with
      |cons h6 r=>cases r;exact⟨p,_,_,_,_,_,_,rfl,hp,h1,h2,h3,h4,h5,h6⟩
theorem pqu:∀{ss:List (List Nat)}{xs:List V},IsKAll K H (ss.map st) xs->xs=ss.map fun l=>V.str ⟨l.toArray⟩
 |[],_,h=>by cases h;rfl
 |s::ss,_,h=>by
  cases h with
  |cons h1 h2=>rw[qqq h1,pqu h2];rfl
def xqv {r e:Bool}{ss:List (List Nat)}{v:V}(h:IsK K H (.tuple [.bool r,.tuple (ss.map st),.bool e]) v):∃p q,v=.ref p∧SqT K H p [.bl r,.ref q,.bl e]∧SqT K H q (ss.map fun l=>V.str ⟨l.toArray⟩):=by
 obtain⟨p,x,y,z,rfl,hp,h1,h2,h3⟩:=isK3 h
 cases qqu h1
 cases qqu h3
 obtain⟨q,xs,rfl,hq,r⟩:=lqQ h2
 cases pqu r
 exact⟨p,q,rfl,hp,hq⟩
def Aqe {x:Ad}{v:V}(h:IsK K H x.data v):∃p w q,v=.ref p∧SqT K H p [.str ⟨x.scheme.toArray⟩,otV x.house,itV x.door,w,q,otV x.mark]∧IsK K H x.way w∧IsK K H (qD x.quest) q:=by
 obtain⟨p,x0,x1,x2,x3,x4,x5,rfl,hp,i0,i1,i2,i3,i4,i5⟩:=isK6 (show IsK K H (.tuple [st x.scheme,oD x.house,iD x.door,x.way,qD x.quest,oD x.mark]) v from h)
 cases qqq i0
 cases tqj i1
 cases yq4 i2
 cases tqj i5
 exact⟨p,x3,x4,rfl,hp,i3,i4⟩
end
end Wm
namespace L2
open PySem PySem.Spec PyProof.Rows
def pickV {α:Type}(xs:List α)(lo hi st:Option Int):List α:=
 (sliceRange (sliceBounds lo hi st xs.length).1 (sliceBounds lo hi st xs.length).2.1 (sliceBounds lo hi st xs.length).2.2).filterMap fun i=>xs[i]?
section
variable {X:Cx}
def tSl3 (K:W.Frag)(te:TE)(tl th ts:TO):TE:=fun σ H Q=>te σ H fun x H1=>tl σ H1 fun l H2=>th σ H2 fun u H3=>ts σ H3 fun k H4=>
 ∃a xs,x=.ref a∧SqL K H4 a xs∧k≠some 0∧(pickV xs l u k).length≤sizeLine∧∀p,H4 p=none->Q (.ref p) (upd H4 p (.lst (pickV xs l u k)))
end
def zq2 {K:W.Frag}{te:TE}{tl th ts:TO}{σ:St}{H:Hp}{Q:VK}:tSl3 K te tl th ts σ H Q↔te σ H fun x H1=>tl σ H1 fun l H2=>th σ H2 fun u H3=>ts σ H3 fun k H4=>
 ∃a xs,x=.ref a∧SqL K H4 a xs∧k≠some 0∧(pickV xs l u k).length≤sizeLine∧∀p,H4 p=none->Q (.ref p) (upd H4 p (.lst (pickV xs l u k))):=Iff.rfl
end L2
namespace Wm
open PySem L2
abbrev Way:=Bool×List Stp×Bool
def Ad.w (x:Ad):Way:=(x.rooted,x.steps,x.ends)
def Ad.withWay (x:Ad)(w:Way):Ad:={ x with rooted:=w.1,steps:=w.2.1,ends:=w.2.2}
def goneV (w:Way):Way:=goneW w.1 w.2.1 w.2.2
def Ad.gone (x:Ad):Ad:=x.withWay (goneV x.w)
def wayOf (w:Way):PyData:=.tuple [.bool w.1,.tuple (w.2.1.map st),.bool w.2.2]
def yq1 {l:Addr}{H:Hp}{Q:VK}:rReverse (.ref l) [] H Q↔∃xs,H l=some (.lst xs)∧Q .non (upd H l (.lst xs.reverse)):=
 ⟨fun⟨_,xs,e,_,h,q⟩=>by cases e;exact⟨xs,h,q⟩,fun⟨xs,h,q⟩=>⟨l,xs,rfl,rfl,h,q⟩⟩
abbrev sV (l:List Nat):V:=.str ⟨l.toArray⟩
def sq4 {α:Type}{l:List α}{i:Nat}{a:α}(h:l[i]?=some a):l.drop i=a::l.drop (i+1):=by
 obtain⟨hi,e⟩:=List.getElem?_eq_some_iff.mp h
 rw[<- e];exact List.drop_eq_getElem_cons hi
theorem vqO {H:Hp}:∀(ss:List (List Nat)),IsAll H (ss.map st) (ss.map sV)
 |[]=>.nil
 |s::ss=>.cons (.str _) (vqO ss)
theorem lq3 {H:Hp}:∀(ss:List (List Nat)),IsTAll H (ss.map st) (ss.map sV)
 |[]=>.nil
 |s::ss=>.cons (.str _) (lq3 ss)
def jqx (ds:List PyData):PyData.eqv (.list ds) (.list [])=ds.isEmpty:=by
 cases ds <;> simp[PyData.eqv,PyData.eqvAll]
def sqx (s:Stp):inV (sV s) [sV sStay,sV sUp]=isDot s:=by
 have e:∀a:Stp,eqV (sV a) (sV s)=decide (s=a):=fun a=>by
  show ((⟨a.toArray⟩:Str) == ⟨s.toArray⟩)=decide (s=a)
  rw[Bool.eq_iff_iff,beq_iff_eq,decide_eq_true_eq,dqC]
  exact⟨Eq.symm,Eq.symm⟩
 unfold inV isDot
 simp only[any_cons,List.any_nil,Bool.or_false,e]
 rw[Bool.or_comm]
end Wm
namespace L2
open PySem
def mqX {X:Cx}{K:W.Frag}(h:X.K=K):OpR X (compareOp .In) (rIn K false):=by subst h;exact sqJ
def yq5 {l:Addr}{H:Hp}{Q:VK}:rPop (.ref l) [] H Q↔∃xs y,H l=some (.lst xs)∧xs[xs.length - 1]?=some y∧Q y (upd H l (.lst xs.dropLast)):=
 ⟨fun⟨_,xs,y,h1,_,h3,h4,h5⟩=>by cases h1;exact⟨xs,y,h3,h4,h5⟩,fun⟨xs,y,h3,h4,h5⟩=>⟨_,xs,y,rfl,rfl,h3,h4,h5⟩⟩
def vqu {D:Ends}{σ:St}{H:Hp}:(tNever D σ H)=(False):=rfl
end L2
namespace Wm
open PySem L2
structure Ad.Tiny (x:Ad):Prop where
 stp:∀s∈x.steps,s.length≤9
 que:∀ps,x.quest=some ps->ps.length≤3∧∀p∈ps,p.1.length≤5∧∀v,p.2=some v->v.length≤6
 mar:∀l,x.mark=some l->l.length≤7
 hou:∀l,x.house=some l->l.length≤13
end Wm
namespace Wm
end Wm
namespace Wm
open PySem L2
def cutA {α:Type}(xs:List α)(lo hi:Option Int):List α:=(xs.drop (HT.sIx xs.length 0 lo)).take (HT.sIx xs.length xs.length hi - HT.sIx xs.length 0 lo)
def qqp {α:Type}(f:α->V)(xs:List α)(lo hi:Option Int):cutV (xs.map f) lo hi=(cutA xs lo hi).map f:=by
 unfold cutV cutA;rw[length_map,List.map_take,map_drop]
def qqG {α:Type}(xs:List α)(lo hi:Option Int):(cutA xs lo hi).length≤xs.length:=by
 unfold cutA;rw[length_take,length_drop];lia
end Wm
namespace L2
open PySem
end L2
namespace Wm
open PySem L2
section
variable {H:Hp}
def wayT' {r e:Bool}{ss:List (List Nat)}{p q:Addr}(hp:H p=some (.tup [.bl r,.ref q,.bl e]))(hq:H q=some (.tup (ss.map fun l=>V.str ⟨l.toArray⟩))):IsT H (.tuple [.bool r,.tuple (ss.map st),.bool e]) (.ref p):=
 .tup hp (.cons (.bl _) (.cons (.tup hq (lq3 _)) (.cons (.bl _) .nil)))
def wqn {x:Ad}{v:V}(h:IsT H x.data v):∃p w q,v=.ref p∧H p=some (.tup [.str ⟨x.scheme.toArray⟩,otV x.house,itV x.door,w,q,otV x.mark])∧IsT H x.way w∧IsT H (qD x.quest) q:=by
 obtain⟨p,x0,x1,x2,x3,x4,x5,rfl,hp,i0,i1,i2,i3,i4,i5⟩:=isT6 (show IsT H (.tuple [st x.scheme,oD x.house,iD x.door,x.way,qD x.quest,oD x.mark]) v from h)
 cases wqb i0
 cases wqv i1
 cases Aqh i2
 cases wqv i5
 exact⟨p,x3,x4,rfl,hp,i3,i4⟩
def adT {x:Ad}{p:Addr}{w q:V}(hp:H p=some (.tup [.str ⟨x.scheme.toArray⟩,otV x.house,itV x.door,w,q,otV x.mark]))(hw:IsT H x.way w)(hq:IsT H (qD x.quest) q):IsT H x.data (.ref p):=
 .tup hp (.cons (.str _) (.cons (uqw _) (.cons (AqG _) (.cons hw (.cons hq (.cons (uqw _) .nil))))))
end
def Ad.Wf.local {x:Ad}(h:x.Wf):({x with scheme:=[],house:=none,door:=none}:Ad).Wf:=
 ⟨⟨Nat.zero_le _,(fun c hc=>by cases hc),(fun c hc=>by cases hc)⟩,(fun l e=>by cases e),(fun l e=>by cases e),h.stp,(fun z=>z.elim (fun y=>absurd rfl y) (fun y=>absurd rfl y)),h.end_,h.que,h.mar⟩
def Goods (n:Nat)(H:Hp)(vs:List V):Prop:=∀v∈vs,∃x:Ad,x.Wf∧x.steps.length≤n∧IsT H x.data v
def Goods.cons {n:Nat}{H:Hp}{v:V}{vs:List V}{x:Ad}(h1:x.Wf)(h2:x.steps.length≤n)(h3:IsT H x.data v)(h:Goods n H vs):Goods n H (v::vs):=fun u hu=>by
 rcases mem_cons.mp hu with rfl|hu
 ·exact⟨x,h1,h2,h3⟩
 ·exact h u hu
end Wm
namespace L2
open PySem PySem.Spec PyProof.Rows
def AqX {b c:Bool}{H:Hp}{Q:VK}:(rIsB true (.bl b) (.bl c) H Q)=(Q (.bl (!decide (b=c))) H):=rfl
end L2
namespace Wm
open PySem L2
structure GoodAd (n:Nat)(x:Ad):Prop where
 wf:x.Wf
 ti:x.Tiny
 sc:x.scheme≠[]
 ln:x.steps.length≤n
end Wm
namespace L2
open PySem PySem.Spec PyProof.Rows
section
variable {prog:Program}{w:World}{A:Around}{E:Value->Shared->Prop}{s:Shared}
end
def Itv (K:W.Frag)(a:Addr)(n:Nat):It:=
 ⟨fun i H=>∃xs x,SqT K H a xs∧xs.length=n∧i < n∧xs[n - 1 - i]?=some x,fun i H x H'=>H'=H∧∀xs,SqT K H a xs->xs.length=n->xs[n - 1 - i]?=some x,fun i _=>n≤i⟩
section
variable {X:Cx}{tg:Expr}{K:W.Frag}
def iRev (K:W.Frag)(ta:TA):TI:=fun σ H R=>ta σ H fun vs H1=>∃a xs,vs=[.ref a]∧SqT K H1 a xs∧R (Itv K a xs.length) H1
variable {σ:St}{H:Hp}{D:Ends}{g:TG}{tb:TS}{aa:TA}
def xqu:(tFor (iRev K aa) g tb D σ H)=(aa σ H fun vs H1=>∃a xs,vs=[.ref a]∧SqT K H1 a xs∧LoopI (Itv K a xs.length) g tb D σ H1):=rfl
end
section
variable {X:Cx}
def rRepT:R2:=fun x y H Q=>∃a k xs,x=.ref a∧y=.int k∧H a=some (.tup xs)∧2≤k∧k < 1000∧xs.length * k.toNat≤sizeLine∧∀p H',Same H H'->H' p=some (.tup (List.replicate k.toNat xs).flatten)->Q (.ref p) H'
def vqL {a:Addr}{k:Int}{H:Hp}{Q:VK}:rRepT (.ref a) (.int k) H Q↔∃xs,H a=some (.tup xs)∧2≤k∧k < 1000∧xs.length * k.toNat≤sizeLine∧∀p H',Same H H'->H' p=some (.tup (List.replicate k.toNat xs).flatten)->Q (.ref p) H':=by
 constructor
 ·rintro⟨a',k',xs,h1,h2,h⟩;cases h1;cases h2;exact⟨xs,h⟩
 ·rintro⟨xs,h⟩;exact⟨a,k,xs,rfl,rfl,h⟩
def rRepS:R2:=fun x y H Q=>∃l k xs,x=.ref l∧y=.int k∧H l=some (.lst xs)∧0≤k∧k < 1000000∧xs.length * k.toNat≤sizeLine∧∀p H',H p=none->Same H H'->H' p=some (.lst (List.replicate k.toNat xs).flatten)->Q (.ref p) H'
def vqs {a:Addr}{k:Int}{H:Hp}{Q:VK}:rRepS (.ref a) (.int k) H Q↔∃xs,H a=some (.lst xs)∧0≤k∧k < 1000000∧xs.length * k.toNat≤sizeLine∧∀p H',H p=none->Same H H'->H' p=some (.lst (List.replicate k.toNat xs).flatten)->Q (.ref p) H':=by
 constructor
 ·rintro⟨a',k',xs,h1,h2,h⟩;cases h1;cases h2;exact⟨xs,h⟩
 ·rintro⟨xs,h⟩;exact⟨a,k,xs,rfl,rfl,h⟩
end
section
variable {X:Cx}
def rRepN:R2:=fun x y H Q=>∃a k xs,x=.ref a∧y=.int k∧H a=some (.tup xs)∧0≤k∧k < 1000∧xs.length * k.toNat≤sizeLine∧∀p H',Same H H'->H' p=some (.tup (List.replicate k.toNat xs).flatten)->Q (.ref p) H'
def vqf {a:Addr}{k:Int}{H:Hp}{Q:VK}:rRepN (.ref a) (.int k) H Q↔∃xs,H a=some (.tup xs)∧0≤k∧k < 1000∧xs.length * k.toNat≤sizeLine∧∀p H',Same H H'->H' p=some (.tup (List.replicate k.toNat xs).flatten)->Q (.ref p) H':=by
 constructor
 ·rintro⟨a',k',xs,h1,h2,h⟩;cases h1;cases h2;exact⟨xs,h⟩
 ·rintro⟨xs,h⟩;exact⟨a,k,xs,rfl,rfl,h⟩
end
section
variable {X:Cx}
def intsV (lo:Int)(n:Nat):List V:=(List.range n).map fun k=>.int (lo+(k:Nat))
def tLR (ta:TA):TE:=fun σ H Q=>ta σ H fun vs H1=>∃j:Int,vs=[.int j]∧0≤j∧j≤1000000∧∀p,H1 p=none->Q (.ref p) (upd H1 p (.lst (intsV 0 j.toNat)))
end
def AqS {ta:TA}{σ:St}{H:Hp}{Q:VK}:(tLR ta σ H Q)=(ta σ H fun vs H1=>∃j:Int,vs=[.int j]∧0≤j∧j≤1000000∧∀p,H1 p=none->Q (.ref p) (upd H1 p (.lst (intsV 0 j.toNat)))):=rfl
end L2
namespace L2
open PySem
section
variable {p:Addr}{fv:St}{tt:TT}{te:TE}{Q:VK}{H1:Hp}{K:W.Frag}
end
end L2
namespace L2
open PySem PySem.Spec PyProof.Rows
section
variable {X:Cx}{pins:List (Addr×Obj)}{σ:St}{H1:Hp}{s3:Shared}{x x2:Str}{fx:List Str}{fr:List Nat}{scope:Scope}{cl:List (Str×Addr)}{fp:List Addr}
theorem uqW (I:Inv X pins σ H1 s3)(hkind:scope.kind=.function)(hcl:∀y c,cl.lookup y=some c->X.env.cells.lookup y=some c)
  (F:Frees X (relabel scope X.env) cl fx fr) (hfx:((relabel scope X.env).names.all fun p=>if (p.2 == .cell || p.2 == .free) then fx.contains p.1 else true)=true)
  (ffp:∀b∈fp,FpOk X pins H1 b) (flt:∀b∈fp,b < s3.heap.objs.size):(compCx X (x::x2::fx) scope cl s3 H1 fp).Ok where
 mod:=I.ok.mod
 kind:=hkind
 glob:=I.ok.glob
 blt:=I.ok.blt
 above:=Nat.le_refl _
 inj:=fun y z c h1 h2=>I.ok.inj y z c (hcl y c h1) (hcl z c h2)
 has:=fun y h=>by
  have h:(relabel scope X.env).names.lookup y=some .cell∨(relabel scope X.env).names.lookup y=some .free:=h
  have key:y∈fx:=by
   rcases h with h|h
   ·have q:=all_eq_true.mp hfx _ (PySem.mem_of_lookup h)
    simpa using q
   ·have q:=all_eq_true.mp hfx _ (PySem.mem_of_lookup h)
    simpa using q
  obtain⟨k1,k2⟩:=F.mem y key
  obtain⟨c,e⟩:=I.ok.has y (.inl k1)
  exact⟨c,k2.trans e⟩
 cab:=fun y c h=>by cases (show false=true from h)
 hd:=I.ok.hd
 frames:=I.ok.frames
 stk:=.inl rfl
 exf:=fun b hb=>⟨Nat.ne_of_lt (flt b hb),fun y c e=>(ffp b hb).2.2.2.2.1 y c (hcl y c e)⟩
 bs:=I.bs
 bsz:=Nat.le_trans I.ok.bsz I.sz
 noex:=fun b o e hb=>by
  rcases (ffp b hb).2.2.2.1 with z|z
  ·exact I.ok.noex b o e z
  ·exact absurd (Nat.lt_of_lt_of_le (Heap.lt_size (I.ok.bs b o e).1) z) (Nat.lt_irrefl _)
 exfs:=fun b hb z=>by
  rcases mem_cons.mp (I.stkSub b z) with q|q
  ·exact (ffp b hb).2.1 q
  ·exact (ffp b hb).2.2.1 q
 funs:=I.stack
 frf:=I.stkFree
theorem pq5 (I:Inv X pins σ H1 s3)(hkind:scope.kind=.function)(hcl:∀y c,cl.lookup y=some c->X.env.cells.lookup y=some c)
  (F:Frees X (relabel scope X.env) cl fx fr) (hfx:((relabel scope X.env).names.all fun p=>if (p.2 == .cell || p.2 == .free) then fx.contains p.1 else true)=true)
  (ffp:∀b∈fp,FpOk X pins H1 b) (flt:∀b∈fp,b < s3.heap.objs.size) {h1:Heap}{t:Nat}{m:Str->Option Value} (hn:h1.Ns s3.heap.objs.size m)
  (keep:∀b u,s3.heap.get? b=some u->h1.get? b=some u):Inv (compCx X (x::x2::fx) scope cl s3 H1 fp) [] (none::none::frV σ fr) H1 {s3 with heap:=h1,toks:=t}:=by
 refine⟨uqW I hkind hcl F hfx ffp flt,rfl,I.bare,Un.kept keep,⟨m,hn,fun i y v e1 e2 e3=>?_⟩,fun y c e=>?_,I.hok.fresh (Nat.le_refl _),fun y c e=>I.freeC y c (hcl y c e),fun p hp=>absurd (show p∈([]:List (Addr×Obj)) from hp) (by simp),I.hok.kept keep,?_⟩
 ·cases i with
  |zero=>simp at e2
  |succ j=>
   cases j with
   |zero=>simp at e2
   |succ j=>
    obtain⟨i0,k1,k2,k3,k4,k5⟩:=F.at (σ:=σ) j y v (by simpa [compCx] using e1) (by simpa using e2)
    obtain⟨m0,ad,ac⟩:=I.loc
    obtain⟨u,r,l⟩:=ac i0 y v k1 k2 (.inr (.inl k3))
    refine⟨u,r,?_⟩
    rcases l with⟨z,_⟩|⟨_,c,e,o,ho,hd⟩
    ·rw[k3] at z;cases z
    ·exact .inr ⟨.inl k4,c,k5.trans e,o,keep c o ho,hd⟩
 ·obtain⟨v,o,ho,hd⟩:=I.cell y c (hcl y c e)
  exact⟨v,o,keep c o ho,hd⟩
 ·show (none::none::frV σ fr).length=(x::x2::fx).length
  simp[frV,F.len]
end
def CompI2 (K:W.Frag)(J:It)(p:Addr)(fv:St)(tt:TT)(te:TE)(Q:VK)(H1:Hp):Prop:=
 ∃W:Nat->Nat->List V->Hp->Prop,(∃m,W 0 m [] (upd H1 p (.lst [])))∧∀i m ys H2,W i m ys H2->H2 p=some (.lst ys) ∧
  ((J.stop i H2∧Q (.ref p) H2)∨(J.go i H2∧ys.length < sizeLine∧∀z H3,J.yld i H2 z H3->∃a x y,z=.ref a∧SqT K H3 a [x,y]∧tt (some x::some y::fv) H3 fun b H4=>
   if b=true then te (some x::some y::fv) H4 fun y H5=>H5 p=some (.lst ys)∧∃m',m' < m∧W (i+1) m' (ys++[y]) (upd H5 p (.lst (ys++[y])))
   else ∃m',m' < m∧W (i+1) m' ys H4))
def tComp2 (K:W.Frag)(wi:TI)(fr:List Nat)(tt:TT)(te:TE):TE:=fun σ H Q=>wi σ H fun J H1=>∀p,H1 p=none->CompI2 K J p (frV σ fr) tt te Q H1
section
variable {X:Cx}{elt iter:Expr}{x x2:Str}{px px2 ptx pos:Pos}{kx:Nat}{ifs:List Expr}{scope:Scope}{cl:List (Str×Addr)}{fx:List Str}{fr:List Nat}{wi:TI}{tt:TT}{te:TE}
theorem lqy {pins:List (Addr×Obj)}{σ:St}{H3:Hp}{s3:Shared}{it p:Addr}{fp:List Addr}{tn:Nat->Heap->Prop}{J:It}{Q:VK}{W:Nat->Nat->List V->Hp->Prop}{m0 t:Nat}{h₁:Heap}{m:Str->Option Value}{RR:Result->Shared->Prop}
  (hc:X.calm=true) (hkind:scope.kind=.function) (hx:scope.names.lookup x=some .local) (hx2:scope.names.lookup x2=some .local) (hnd:(x::x2::fx).Nodup)
  (hcl:∀y c,cl.lookup y=some c->X.env.cells.lookup y=some c) (F:Frees X (relabel scope X.env) cl fx fr)
  (hfx:((relabel scope X.env).names.all fun p=>if (p.2 == .cell || p.2 == .free) then fx.contains p.1 else true)=true)
  (ht:∀s H fp,PF (compCx X (x::x2::fx) scope cl s H fp) ifs tt) (he:∀s H fp,PE (compCx X (x::x2::fx) scope cl s H fp) elt te)
  (I3:Inv X pins σ H3 s3) (T:Turn X.prog X.w X.K (.Tuple [.Name x px,.Name x2 px2] kx ptx) J fp it tn) (st3:tn 0 s3.heap) (ffp:∀b∈fp,FpOk X pins H3 b) (flt3:∀b∈fp,b < s3.heap.objs.size)
  (w0:W 0 m0 [] H3) (turn:∀i m ys H2,W i m ys H2->H2 p=some (.lst ys) ∧
   ((J.stop i H2∧Q (.ref p) H2)∨(J.go i H2∧ys.length < sizeLine∧∀z H3,J.yld i H2 z H3->∃a x y,z=.ref a∧SqT X.K H3 a [x,y]∧tt (some x::some y::frV σ fr) H3 fun b H4=>
    if b=true then te (some x::some y::frV σ fr) H4 fun y H5=>H5 p=some (.lst ys)∧∃m',m' < m∧W (i+1) m' (ys++[y]) (upd H5 p (.lst (ys++[y])))
    else ∃m',m' < m∧W (i+1) m' ys H4)))
  (hns:h₁.Ns s3.heap.objs.size m) (keep1:∀b u,s3.heap.get? b=some u->h₁.get? b=some u)
  (fin:∀s6 H5 o o2,Inv (compCx X (x::x2::fx) scope cl s3 H3 fp) [] (o::o2::frV σ fr) H5 s6->Q (.ref p) H5->RR (.ok .next) s6) :
  codeAny (model X.prog X.w) X.A (.compStart (.ListComp elt [⟨.Tuple [.Name x px,.Name x2 px2] kx ptx,iter,ifs,0⟩] scope pos) 0 (.ref it) (.ref p) (compEnvC scope cl s3.heap.objs.size X.env))
   RR {s3 with heap:=h₁,toks:=t}:=by
 have I4:=pq5 (x:=x) (x2:=x2) (t:=t) I3 hkind hcl F hfx ffp flt3 hns keep1
 have ar:tn 0 h₁:=T.keep _ _ _ st3 fun b hb o e=>keep1 b o e
 have bf:∀b∈fp,H3 b=none:=fun b hb=>(ffp b hb).1
 have ae:(compCx X (x::x2::fx) scope cl s3 H3 fp).calm=true:=hc
 have ad:∀{H':Hp},(∀b∈fp,H' b=none)->∀b∈fp,FpOk (compCx X (x::x2::fx) scope cl s3 H3 fp) [] H' b:=fun {H'} hn b hb=>by
  obtain⟨f0,f1,f2,f3,f4,f5⟩:=ffp b hb
  exact⟨hn b hb,Nat.ne_of_lt (flt3 b hb),I4.ok.exfs b hb,.inl hb,fun y c e=>f4 y c (hcl y c e),fun q hq=>absurd (show q∈([]:List (Addr×Obj)) from hq) (by simp)⟩
 have au:(relabel scope X.env).names.lookup x=some .local:=lookup_relabel_local hx
 have ah:(relabel scope X.env).names.lookup x2=some .local:=lookup_relabel_local hx2
 have pg:PG (compCx X (x::x2::fx) scope cl s3 H3 fp) (.Tuple [.Name x px,.Name x2 px2] kx ptx) (gTup X.K 2 (gCons (gName 0) (gCons (gName 1) gNil))):=wqH ae (bqe (aqX (i:=0) hnd rfl (.inl au) (.inr au)) (bqe (aqX (i:=1) hnd rfl (.inl ah) (.inr ah)) gqU))
 have ag:codeAny (model X.prog X.w) X.A (.compLoop (.ListComp elt [⟨.Tuple [.Name x px,.Name x2 px2] kx ptx,iter,ifs,0⟩] scope pos) 0 (.ref it) (.ref p) (compEnvC scope cl s3.heap.objs.size X.env))
    RR {s3 with heap:=h₁,toks:=t}:=by
  refine kqr (fun n s'=>∃i ys H' o o2,Inv (compCx X (x::x2::fx) scope cl s3 H3 fp) [] (o::o2::frV σ fr) H' s'∧tn i s'.heap∧(∀b∈fp,H' b=none)∧W i n ys H') ?_ m0 ⟨0,[],_,none,none,I4,ar,bf,w0⟩
  rintro n s5 ⟨i,ys,H5,o,o2,I5,aq,av,w5⟩
  obtain⟨bo,bi⟩:=turn i n ys H5 w5
  rcases bi with⟨stop,qn⟩|⟨go,ao,aj⟩
  ·refine thn (T.done (compCx X (x::x2::fx) scope cl s3 H3 fp) rfl rfl rfl ae i [] s5 (o::o2::frV σ fr) H5 _ I5 (ad av) aq stop) fun r s6 W'=>?_
   obtain⟨hr,I6⟩:=W'
   subst hr
   exact fin s6 H5 o o2 I6 qn
  ·refine thn (T.item (compCx X (x::x2::fx) scope cl s3 H3 fp) rfl rfl rfl ae i [] s5 (o::o2::frV σ fr) H5 _ I5 (ad av) aq go) fun r s6 W'=>?_
   obtain⟨u,hr,h6⟩:=W'
   subst hr
   refine thn h6 fun _ s7 W'=>?_
   obtain⟨y7,H7,I7,r7,ax,al,be⟩:=W'
   have bp:=I7.pinned (ad be) (T.obj _ _ al)
   have ac:∀{σ':St}{H':Hp}{s':Shared},Inv (compCx X (x::x2::fx) scope cl s3 H3 fp) ([]++pinsAt fp s7.heap) σ' H' s'->tn (i+1) s'.heap∧∀b∈fp,H' b=none:=fun {σ' H' s'} I'=>by
    refine⟨T.keep _ _ _ al fun b hb o e=>(I'.pin (b,o) (mem_append_right _ (mem_append_right _ (eqb hb e)))).1,fun b hb=>?_⟩
    obtain⟨o,e,d⟩:=T.obj _ _ al b hb
    exact (I'.pin (b,o) (mem_append_right _ (mem_append_right _ (eqb hb e)))).2.1
   obtain⟨a7,z1,z2,e7,q7,af⟩:=aj y7 _ ax
   subst e7
   refine thn (pg _ s7 _ H7 (.ref a7) u (fun σ' H'=>σ'=some z1::some z2::frV σ fr∧H'=H7) bp r7 ⟨a7,[z1,z2],rfl,q7,rfl,z1,[z2],rfl,z2,[],rfl,rfl,rfl,rfl⟩) fun _ s8 W'=>?_
   obtain⟨σ8,H8,I8,e8,bg⟩:=W'
   subst e8 bg
   refine thn (ht s3 H3 fp _ s8 _ _ _ I8 af) fun b s9 W'=>?_
   obtain⟨H9,I9,q9⟩:=W'
   cases b with
   |false=>
    rw[if_neg Bool.false_ne_true] at q9 ⊢
    obtain⟨m',hm,w9⟩:=q9
    exact⟨m',hm,i+1,ys,H9,some z1,some z2,I9.unpinned,(ac I9).1,(ac I9).2,w9⟩
   |true=>
    rw[if_pos rfl] at q9 ⊢
    refine thn (he s3 H3 fp _ s9 _ H9 _ I9 q9) fun az bc W'=>?_
    obtain⟨ai,aw,bj,bd,am,m',hm,ay⟩:=W'
    refine thn (bqu _ bc _ aw (.ref p) [ai] (.ref p) [az] (fun _ H'=>H'=upd aw p (.lst (ys++[ai]))) bj rfl (.cons bd .nil) ⟨p,ys,ai,rfl,rfl,am,ao,rfl⟩) fun _ bn W'=>?_
    obtain⟨_,bq,ap,_,bh⟩:=W'
    subst bh
    exact⟨m',hm,i+1,ys++[ai],_,some z1,some z2,ap.unpinned,(ac ap).1,(ac ap).2,ay⟩
 exact codeAny_compStart_list ag (T.self _ 0 _ _ _ ar ag)
theorem vqK (hc:X.calm=true)(hclos:closureFor scope X.env=pure cl)(hcell:∀y∈scope.names,y.2≠.cell)(hkind:scope.kind=.function)
  (hnames:∀y∈scope.names,y.2=.local->scope.names.lookup y.1=some .local) (hx:scope.names.lookup x=some .local) (hx2:scope.names.lookup x2=some .local) (hnd:(x::x2::fx).Nodup)
  (hk:(cl.all fun q=>fx.contains q.1)=true) (F:Frees X (relabel scope X.env) cl fx fr)
  (hfx:((relabel scope X.env).names.all fun p=>if (p.2 == .cell || p.2 == .free) then fx.contains p.1 else true)=true)
  (hi:PI X (.Tuple [.Name x px,.Name x2 px2] kx ptx) iter wi) (ht:∀s H fp,PF (compCx X (x::x2::fx) scope cl s H fp) ifs tt) (he:∀s H fp,PE (compCx X (x::x2::fx) scope cl s H fp) elt te)
  (hs:∀x,foldedSetIterable iter X.env x=pure x:=by intro _;rfl) :
  PE X (.ListComp elt [⟨.Tuple [.Name x px,.Name x2 px2] kx ptx,iter,ifs,0⟩] scope pos) (tComp2 X.K wi fr tt te):=by
 intro ac s σ H Q I h
 have ar:∀y c,cl.lookup y=some c->X.env.cells.lookup y=some c:=fun y c e=>by
  have q:=all_eq_true.mp hk _ (PySem.mem_of_lookup e)
  rw[<- (F.mem y (by simpa using q)).2]
  exact e
 rw[eval_ListComp]
 refine wpAny_comprehension_free (use:=none) rfl hs hclos hkind hnames ?_
 refine thn (hi ac s σ H _ I h) fun v s1 h1=>thn h1 fun av s2 h2=>?_
 obtain⟨it,fp,tn,J,H2,e,I2,T,aj,f2,q2⟩:=h2
 subst e
 have ap:H2 s2.heap.objs.size=none:=I2.hok.fresh (Nat.le_refl _)
 obtain⟨W,⟨m0,w0⟩,ai⟩:=q2 _ ap
 have am:∀b∈fp,b < s2.heap.objs.size:=fun b hb=>by
  obtain⟨o,e,_⟩:=T.obj _ _ aj b hb
  exact Heap.lt_size e
 refine wpAny_newObj_type (wpAny_newFunctionEnv hcell (by intro y hy;simp at hy) (fun h₁ ae ad=>?_) hkind)
 dsimp only at ae ad ⊢
 have af:∀b u,s2.heap.get? b=some u->(s2.heap.push {cls:=.type "list",dict:=none,data:=.seq ([]:List Value).toArray}).get? b=some u:=fun b u e=>Heap.get?_push_of_some _ e
 have ah:(s2.heap.push {cls:=.type "list",dict:=none,data:=.seq ([]:List Value).toArray}).get? s2.heap.objs.size=some {cls:=.type "list",dict:=none,data:=.seq ([]:List Value).toArray}:=Heap.get?_push_size _ rfl
 have al:(s2.heap.push {cls:=.type "list",dict:=none,data:=.seq ([]:List Value).toArray}).objs.size=s2.heap.objs.size+1:=Heap.size_push _ _
 generalize hHH:s2.heap.push {cls:=.type "list",dict:=none,data:=.seq ([]:List Value).toArray}=HH at ae ad af ah al ⊢
 have I3:Inv X ac σ (upd H2 s2.heap.objs.size (.lst [])) {s2 with heap:=HH,toks:=s2.toks}:=
  I2.laid (t':=s2.toks) (o:=.lst []) af (Nat.le_refl _) ⟨Nat.zero_le _,[],0,.nil,ah⟩
 have ao:∀b∈fp,FpOk X ac (upd H2 s2.heap.objs.size (.lst [])) b:=fun b hb=>by
  obtain⟨f0,au⟩:=f2 b hb
  exact⟨by rw[aqp (Nat.ne_of_lt (am b hb))];exact f0,au⟩
 have ag:∀b u,HH.get? b=some u->h₁.get? b=some u:=fun b u e=>ad.extBut b u (Nat.ne_of_lt (Heap.lt_size e)) (Heap.get?_push_of_some _ e)
 exact lqy (s3:={ s2 with heap:=HH,toks:=s2.toks}) hc hkind hx hx2 hnd ar F hfx ht he I3 T (T.keep _ _ _ aj fun b hb o e=>af b o e) ao (fun b hb=>by show b < HH.objs.size;rw[al];exact Nat.lt_succ_of_lt (am b hb)) w0 ai ae ag fun s6 H5 o o2 I6 qn=>by
  obtain⟨m,aq,_⟩:=id I6.loc
  exact⟨m,aq,fun h' sb=>⟨.ref _,H5,lq1 I3 I6 ao sb,rfl,qn⟩⟩
theorem sqF {K:W.Frag}(h:X.K=K)(hc:X.calm=true)(hclos:closureFor scope X.env=pure cl)(hcell:∀y∈scope.names,y.2≠.cell)(hkind:scope.kind=.function)
  (hnames:∀y∈scope.names,y.2=.local->scope.names.lookup y.1=some .local) (hx:scope.names.lookup x=some .local) (hx2:scope.names.lookup x2=some .local) (hnd:(x::x2::fx).Nodup)
  (hk:(cl.all fun q=>fx.contains q.1)=true) (F:Frees X (relabel scope X.env) cl fx fr)
  (hfx:((relabel scope X.env).names.all fun p=>if (p.2 == .cell || p.2 == .free) then fx.contains p.1 else true)=true)
  (hi:PI X (.Tuple [.Name x px,.Name x2 px2] kx ptx) iter wi) (ht:∀s H fp,PF (compCx X (x::x2::fx) scope cl s H fp) ifs tt) (he:∀s H fp,PE (compCx X (x::x2::fx) scope cl s H fp) elt te)
  (hs:∀x,foldedSetIterable iter X.env x=pure x:=by intro _;rfl) :
  PE X (.ListComp elt [⟨.Tuple [.Name x px,.Name x2 px2] kx ptx,iter,ifs,0⟩] scope pos) (tComp2 K wi fr tt te):=by
 subst h;exact vqK hc hclos hcell hkind hnames hx hx2 hnd hk F hfx hi ht he hs
theorem uqI {K:W.Frag}{i:Nat}{y:Str}{py spos:Pos}(hN:X.N.Nodup)(hiN:X.N[i]?=some y)(hy:X.env.scope.names.lookup y=some .local)
  (h:X.K=K) (hc:X.calm=true) (hclos:closureFor scope X.env=pure cl) (hcell:∀y∈scope.names,y.2≠.cell) (hkind:scope.kind=.function)
  (hnames:∀y∈scope.names,y.2=.local->scope.names.lookup y.1=some .local) (hx:scope.names.lookup x=some .local) (hx2:scope.names.lookup x2=some .local) (hnd:(x::x2::fx).Nodup)
  (hk:(cl.all fun q=>fx.contains q.1)=true) (F:Frees X (relabel scope X.env) cl fx fr)
  (hfx:((relabel scope X.env).names.all fun p=>if (p.2 == .cell || p.2 == .free) then fx.contains p.1 else true)=true)
  (hi:PI X (.Tuple [.Name x px,.Name x2 px2] kx ptx) iter wi) (ht:∀s H fp,PF (compCx X (x::x2::fx) scope cl s H fp) ifs tt) (he:∀s H fp,PE (compCx X (x::x2::fx) scope cl s H fp) elt te)
  (hs:∀x,foldedSetIterable iter X.env x=pure x:=by intro _;rfl) (hsw:swapsWith (.ListComp elt [⟨.Tuple [.Name x px,.Name x2 px2] kx ptx,iter,ifs,0⟩] scope pos) (some (.Name y py)) spos.line X.env=pure true:=by rfl) :
  PS X (.Assign [.Name y py] (.ListComp elt [⟨.Tuple [.Name x px,.Name x2 px2] kx ptx,iter,ifs,0⟩] scope pos) spos) (tAsg (tComp2 K wi fr tt te) (gName i)):=by
 subst h
 intro ac s σ H D I h
 have aw:∀y c,cl.lookup y=some c->X.env.cells.lookup y=some c:=fun y c e=>by
  have q:=all_eq_true.mp hk _ (PySem.mem_of_lookup e)
  rw[<- (F.mem y (by simpa using q)).2]
  exact e
 rw[exec_Assign_Name_used _ _ _ _ hsw]
 refine wpAny_bind (wpAny_standAt (wpAny_bind ?_))
 show wpAny _ X.A (do let _ <- comprehension (.ListComp elt [⟨.Tuple [.Name x px,.Name x2 px2] kx ptx,iter,ifs,0⟩] scope pos) scope X.env _ (newList []) false (eval iter X.env) (some (assign (.Name y py) X.env))) _ _ s
 refine wpAny_bind (wpAny_mono (wpAny_comprehension_free (use:=some (assign (.Name y py) X.env)) (Q:=fun _ s'=>SP X ac D .next s') rfl hs hclos hkind hnames ?_) (fun _ s' hq=>wpAny_pure (wpAny_pure hq)) fun _ _ e=>e)
 refine thn (hi ac s σ H _ I h) fun v s1 h1=>thn h1 fun ay s2 h2=>?_
 obtain⟨it,fp,tn,J,H2,e,I2,T,aj,f2,q2⟩:=h2
 subst e
 have ar:H2 s2.heap.objs.size=none:=I2.hok.fresh (Nat.le_refl _)
 obtain⟨W,⟨m0,w0⟩,ai⟩:=q2 _ ar
 have am:∀b∈fp,b < s2.heap.objs.size:=fun b hb=>by
  obtain⟨o,e,_⟩:=T.obj _ _ aj b hb
  exact Heap.lt_size e
 refine wpAny_newObj_type (wpAny_newFunctionEnv hcell (by intro y hy;simp at hy) (fun h₁ ae ad=>?_) hkind)
 dsimp only at ae ad ⊢
 have af:∀b u,s2.heap.get? b=some u->(s2.heap.push {cls:=.type "list",dict:=none,data:=.seq ([]:List Value).toArray}).get? b=some u:=fun b u e=>Heap.get?_push_of_some _ e
 have ah:(s2.heap.push {cls:=.type "list",dict:=none,data:=.seq ([]:List Value).toArray}).get? s2.heap.objs.size=some {cls:=.type "list",dict:=none,data:=.seq ([]:List Value).toArray}:=Heap.get?_push_size _ rfl
 have al:(s2.heap.push {cls:=.type "list",dict:=none,data:=.seq ([]:List Value).toArray}).objs.size=s2.heap.objs.size+1:=Heap.size_push _ _
 generalize hHH:s2.heap.push {cls:=.type "list",dict:=none,data:=.seq ([]:List Value).toArray}=HH at ae ad af ah al ⊢
 have I3:Inv X ac σ (upd H2 s2.heap.objs.size (.lst [])) {s2 with heap:=HH,toks:=s2.toks}:=
  I2.laid (t':=s2.toks) (o:=.lst []) af (Nat.le_refl _) ⟨Nat.zero_le _,[],0,.nil,ah⟩
 have ao:∀b∈fp,FpOk X ac (upd H2 s2.heap.objs.size (.lst [])) b:=fun b hb=>by
  obtain⟨f0,ax⟩:=f2 b hb
  exact⟨by rw[aqp (Nat.ne_of_lt (am b hb))];exact f0,ax⟩
 have ag:∀b u,HH.get? b=some u->h₁.get? b=some u:=fun b u e=>ad.extBut b u (Nat.ne_of_lt (Heap.lt_size e)) (Heap.get?_push_of_some _ e)
 exact lqy (Q:=fun x H1=>gName i x σ H1 D.nx) (s3:={ s2 with heap:=HH,toks:=s2.toks}) hc hkind hx hx2 hnd aw F hfx ht he I3 T (T.keep _ _ _ aj fun b hb o e=>af b o e) ao (fun b hb=>by show b < HH.objs.size;rw[al];exact Nat.lt_succ_of_lt (am b hb)) w0 ai ae ag fun s6 H5 o o2 I6 qn=>by
  have nC:H5 HH.objs.size=none:=I6.free
  have I7:Inv X ac σ H5 s6:=lq1 (h':=s6.heap) I3 I6 ao ⟨rfl,fun _ _=>rfl⟩
  obtain⟨f0,f1,f2,f3,f4,f5⟩:=I3.fpOk (H':=H5) (b:=HH.objs.size) (Nat.le_refl _) nC
  obtain⟨m,av,_⟩:=id I6.loc
  show wpAny _ X.A (assign (.Name y py) X.env (.ref _)) _ _ s6
  refine wpAny_assign_Name (oqO I7 hN hiN (.inl hy) (v:=.ref _) rfl (fun s8 I8 ap=>?_) (.inr hy))
  obtain⟨a,sb,ha⟩:=ap
  have au:HH.objs.size≠a:=by
   rcases ha with rfl|ha
   ·exact f1
   ·exact fun z=>f4 y a ha z.symm
  refine⟨m,av.sameBut sb au,fun h' aq=>?_⟩
  exact⟨_,H5,I8.turned (t':=s8.toks) (it:=HH.objs.size) (fun b o hb e=>aq.extBut b o hb e) f0 f1 f3 f4 f5,qn⟩
end
section
variable {p:Addr}{fv:St}{te:TE}{Q:VK}{H1:Hp}{K:W.Frag}
theorem uqm {a:Addr}{xs zs:List V}{f:Nat->V×V}(hxs:SqT K H1 a xs)(hlen:xs.length≤sizeLine)(hp:H1 p=none)(hz:zs.length=xs.length)
  (hit:∀(i:Nat) (x:V) (H':Hp),xs[i]?=some x->Same H1 H'->∃b,x=.ref b∧SqT K H' b [(f i).1,(f i).2])
  (he:∀(i:Nat) (z:V),i < xs.length->zs[i]?=some z->∀(H':Hp) (T:VK),Same H1 H'->(∀H'',Same H' H''->T z H'')->te (some (f i).1::some (f i).2::fv) H' T)
  (hQ:∀H',Same H1 H'->H' p=some (.lst zs)->Q (.ref p) H'):CompI2 K (Itt K a) p fv tYes te Q H1:=by
 refine⟨fun i m ys H2=>m=xs.length - i∧i≤xs.length∧ys=zs.take i∧H2 p=some (.lst ys)∧Same H1 H2,⟨xs.length,by simp,Nat.zero_le _,by simp,aqm,fun b o e=>by rw[aqp (aqn e hp)];exact e⟩,?_⟩
 rintro i m ys H2 ⟨rfl,hi,rfl,ad,sm⟩
 refine⟨ad,?_⟩
 have q:=sm.tup hxs
 by_cases ac:i < xs.length
 ·refine .inr ⟨⟨xs,xs[i],q,by simp[ac]⟩,?_,fun x H3 y=>?_⟩
  ·rw[length_take];lia
  ·obtain⟨rfl,y⟩:=y
   have hc:=y xs q
   obtain⟨b,rfl,hb⟩:=hit i x H3 hc sm
   refine⟨b,_,_,rfl,hb,?_⟩
   unfold tYes
   dsimp only
   rw[if_pos rfl]
   have ae:zs[i]?=some zs[i]:=by simp[hz,ac]
   refine he i _ ac ae _ _ sm fun H5 s5=>⟨s5 _ _ ad,xs.length - (i+1),by lia,rfl,ac,?_,aqm,fun b o e=>?_⟩
   ·rw[take_add_one,ae];rfl
   ·rw[aqp (aqn e hp)];exact s5 _ _ (sm _ _ e)
 ·have e:i=xs.length:=by lia
  subst e
  refine .inl ⟨⟨xs,q,Nat.le_refl _⟩,hQ H2 sm ?_⟩
  rw[ad,<- hz,take_length]
def tqu {tl:TE}{tt:TT}{fr:List Nat}{σ:St}{H:Hp}:(tComp2 K (iTup K tl) fr tt te σ H Q)=(tl σ H fun x H1=>∃a,x=.ref a∧(∃xs,SqT K H1 a xs)∧∀p,H1 p=none->CompI2 K (Itt K a) p (frV σ fr) tt te Q H1):=rfl
end
section
variable {X:Cx}
def rFind:V->List V->Hp->VK->Prop:=fun x vs H Q=>match x,vs with
 |.str z,[.str y]=>Q (.int (Txt.find z y)) H
 |_,_=>False
def yqM {z y:Str}{H:Hp}{Q:VK}:(rFind (.str z) [.str y] H Q)=(Q (.int (Txt.find z y)) H):=rfl
end
end L2
namespace Wm
open PySem L2
def xqU (s:Stp)(L:List Stp):inV (sV s) (L.map sV)=decide (s∈L):=by
 have e:∀a:Stp,eqV (sV a) (sV s)=decide (s=a):=fun a=>by
  show ((⟨a.toArray⟩:Str) == ⟨s.toArray⟩)=decide (s=a)
  rw[Bool.eq_iff_iff,beq_iff_eq,decide_eq_true_eq,dqC]
  exact⟨Eq.symm,Eq.symm⟩
 unfold inV
 rw[Bool.eq_iff_iff,decide_eq_true_eq,List.any_eq_true]
 constructor
 ·rintro⟨x,hx,h⟩
  obtain⟨a,ha,rfl⟩:=mem_map.mp hx
  rw[e,decide_eq_true_eq] at h
  rw[h];exact ha
 ·intro h
  exact⟨sV s,mem_map.mpr ⟨s,h,rfl⟩,by rw[e];simp⟩
def uqT (a b:List Stp):PyData.eqv (.tuple (a.map st)) (.tuple (b.map st))=decide (a=b):=by
 rw[Bool.eq_iff_iff,decide_eq_true_eq,PyData.eqv]
 exact hqR tqp _ _
end Wm
namespace Wm
end Wm
namespace L2
open PySem
def yq2 {l:Addr}{H:Hp}{Q:VK}{i:Int}:rPopAt (.ref l) [.int i] H Q↔∃xs k y,H l=some (.lst xs)∧-(2 ^ 63)≤i∧i < 2 ^ 63∧seqIndex? i xs.length=some k∧xs[k]?=some y∧Q y (upd H l (.lst (xs.eraseIdx k))):=
 ⟨fun⟨_,xs,_,k,y,h1,h2,h⟩=>by cases h1;cases h2;exact⟨xs,k,y,h⟩,fun⟨xs,k,y,h⟩=>⟨_,xs,_,k,y,rfl,rfl,h⟩⟩
end L2
namespace L2
open PySem PySem.Spec PySem.W PyProof.Rows
abbrev vErr:List Value:=[.type "ValueError",.type "Exception",.type "BaseException",.type "object"]
abbrev vNew:String := "ValueError.__new__"
def clsIs (d:Data)(f:ClassData->Bool):Bool:=match d with
 |.cls c=>f c
 |_=>false
theorem uqV {d:Data}{f:ClassData->Bool}(q:clsIs d f=true):∃c,d=.cls c∧f c=true:=by
 cases d with
 |cls c=>exact⟨c,rfl,q⟩
 |_=>cases q
def excInJ (K:Frag)(C:Addr)(bmB:List Value)(newId:String)(v:Option Value):Bool:=match K.lookup C with
 |some o=>o.cls == .type "type" && clsIs o.data fun cd=>cd.mro == .ref C::cd.mro.tail && (o.slots == #[o.slots.getD 0 none,o.slots.getD 1 none,o.slots.getD 2 none,o.slots.getD 3 none,some (.builtin newId),o.slots.getD 5 none] && (!cd.hasDel && (tailIn K bmB cd.mro.tail && (nsOkIn K cd.ns && nsIn K cd.ns "__init__" == some v))))
 |_=>false
def mqL {a b:Bool}(h:(a && b)=true):a=true∧b=true:=by cases a;cases h;exact⟨rfl,h⟩
abbrev clsO (cd:ClassData)(C:Addr)(tl:List Value)(dd:Option Addr)(a:Nat->Option Value)(nid:String):Obj:=excClassObj cd.name cd.qualname C cd.ns cd.bases tl cd.hasDict cd.slotNames cd.subclasses cd.abstract cd.collection dd (a 0) (a 1) (a 2) (a 3) (a 5) nid
def xq6 {o:Obj}{cd:ClassData}{C:Addr}{tl:List Value}{a:Nat->Option Value}{nid:String}(h0:o.cls=.type "type")(h1:o.data=.cls cd)(h2:cd.mro=.ref C::tl)(h3:o.slots=#[a 0,a 1,a 2,a 3,some (.builtin nid),a 5])(h4:cd.hasDel=false) :
  o=clsO cd C tl o.dict a nid:=by
 cases o
 cases cd
 cases h0;cases h1;cases h2;cases h3;cases h4
 rfl
theorem excObjJ {K:Frag}{h:Heap}{C:Addr}{bb:List Value}{nid:String}{v:Option Value}(kin:K.In h)(q:excInJ K C bb nid v=true) :
  ∃cd tl dd a,h.get? C=some (clsO cd C tl dd a nid)∧(nsOkIn K cd.ns=true∧nsIn K cd.ns "__init__"=some v)∧OwnTail h bb tl:=by
 unfold excInJ at q
 generalize lk:K.lookup C=r at q
 cases r with
 |none=>cases q
 |some o=>
  have q:=mqL q
  obtain⟨cd,e,q1⟩:=uqV q.2
  have q1:=mqL q1
  have q3:=mqL q1.2
  have q4:=mqL q3.2
  have q5:=mqL q4.2
  have q6:=mqL q5.2
  exact⟨cd,_,_,_,(kin _ _ lk).trans (congrArg some (xq6 (a:=(o.slots.getD · none)) (beq_iff_eq.mp q.1) e (beq_iff_eq.mp q1.1) (beq_iff_eq.mp q3.1) ((Bool.not_eq_true' _).mp q4.1))),⟨q6.1,beq_iff_eq.mp q6.2⟩,tail_of_in kin q5.1⟩
def Raises (X:Cx)(E:XK):Prop:=∀(pins:List (Addr×Obj)) (σ:St) (H:Hp) (s:Shared) (h':Heap) (e C:Addr),Inv X pins σ H s->Heap.MadeExcOf s.heap h' e (.ref C) []->E (.ref C) none H->X.xe (.ref e) {s with heap:=h' }
def tRaise (E:XK)(C:Addr):TS:=fun _ _ H=>E (.ref C) none H
def qqk {E:XK}{C:Addr}{D:Ends}{σ:St}{H:Hp}:(tRaise E C D σ H)=(E (.ref C) none H):=rfl
theorem oqq {X:Cx}{x:Str}{C:Addr}{E:XK}{np cpos pos:Pos}(hx:Raises X E)(hg:Gl X x)(hm:X.mg x=some (.ref C))(hc:excInJ X.K C vErr vNew none=true)(hcalm:X.calm=true)(hdb:(x == ("__debug__" : Str))=false:=by decide) :
  PS X (.Raise (some (.Call (.Name x np) [] [] cpos)) none pos) (tRaise E C):=by
 intro ac s σ H D I h
 obtain⟨cd,tl,dd,a,hC,⟨ad,ae⟩,T⟩:=excObjJ I.kIn hc
 have hN:=Heap.Ns.of_isNs (isNs_of_in I.kIn ad)
 have ae:=nsMap_none_of_in I.kIn ad ae
 refine wpAny_Raise_call_subU (C:=C) (nm:=cd.name) (q:=cd.qualname) (N:=cd.ns) (bs:=cd.bases) (bm:=tl) (hdct:=cd.hasDict) (sn:=cd.slotNames) (sub:=cd.subclasses) (ab:=cd.abstract) (col:=cd.collection) (dd:=dd) (k0:=a 0) (k1:=a 1) (k2:=a 2) (k3:=a 3) (k5:=a 5)
  F.excBase_ValueError (by decide) F.excBase_ValueError (mN:=_) (T.hasType F.excBase_ValueError.hasBase) (I.ok.hd hcalm) rfl ae (eqg I hg hm ⟨rfl,?_⟩ hdb)
 exact evalArgs_empty ⟨rfl,Nat.zero_le _,hC,hN,T,fun h' e af=>hx ac σ H s h' e C I af h⟩
theorem ObjOk.ex {P:Program}{w:World}{H:Hp}{h:Heap}{a:Addr}{o:HO}(x:ObjOk P w H h a o):∃u,h.get? a=some u:=by
 cases o with
 |lst xs=>obtain⟨_,_,_,_,e⟩:=x;exact⟨_,e⟩
 |tup xs=>obtain⟨_,_,_,_,e,_⟩:=x;exact⟨_,e⟩
 |dK kvs=>obtain⟨_,_,_,_,_,_,_,e,_⟩:=x;exact⟨_,e⟩
 |dT kvs=>obtain⟨_,_,_,_,_,_,_,e,_⟩:=x;exact⟨_,e⟩
 |set S n=>obtain⟨_,_,_,_,e,_⟩:=x;exact⟨_,e⟩
 |ins C dx fs=>obtain⟨_,_,_,e,_⟩:=x;exact⟨_,e⟩
 |own y=>exact x
 |xd fs=>obtain⟨_,⟨_,_,_,e,_⟩,_⟩:=x;exact⟨_,e⟩
 |rng lo hi=>obtain⟨_,_,_,e⟩:=x;exact⟨_,e⟩
 |frz ob u=>exact⟨_,x.1⟩
 |tbl ps=>exact⟨_,x⟩
 |met f y=>exact⟨_,x⟩
 |ext φ=>exact x.2.1
structure Flown (P:Program)(w:World)(base:Heap)(outer:List Env)(H:Hp)(s:Shared)(a t C:Addr)(B:Heap)(H':Hp)(s':Shared):Prop where
 os:s'.os=s.os
 bare:AllBare s'.gens
 st:base.StaysIn B
 fly:Heap.FlyingW B outer a (.ref C) (.ref t) s'.heap
 hok:HOk P w H' B
 un:Un (frs outer) [] H H' s.heap s'.heap
 kb:∀b o,s.heap.get? b=some o->H b=none->b∉frs outer->B.get? b=some o
 thB:∀b o,s.heap.get? b=some o->b∉frs outer->∃o',B.get? b=some o'
def CXE (P:Program)(w:World)(base:Heap):CXT:=fun outer H s E e s'=>∃(a t C:Addr) (B:Heap) (H':Hp),e=.ref a∧E (.ref C) none H'∧Flown P w base outer H s a t C B H' s'
def fqZ {env:Env}{L:Addr}{outer:List Env}(hf:env.frame=some L){b:Addr}:b∈frs (env::outer)↔b=L∨b∈frs outer:=by
 unfold frs
 rw[filterMap_cons,hf]
 exact mem_cons
section
variable {P:Program}{w:World}{K:Frag}{mg:Str->Option Value}{base:Heap}{N:List Str}{qual:Str}{scope:Scope}{f:Addr}{cd:Value}{A:Around}{outer:List Env}{s:Shared}{H:Hp}{E:XK}
theorem sqH:Raises (cxOf (CXE P w base) P w K mg base N qual scope f cd A outer s H E) E:=by
 intro ai σ H1 s1 h' e C I hm hE
 have hf:(envOfC qual scope s.heap.objs.size f cd).frame=some s.heap.objs.size:=rfl
 have ae:s1.heap.FunFrames base (envOfC qual scope s.heap.objs.size f cd::outer):=I.stack
 have ah:∀b∈frs (envOfC qual scope s.heap.objs.size f cd::outer),H1 b=none:=I.stkFree
 have ib:Un (frs outer) [] H H1 s.heap s1.heap:=I.base
 have ne:∀b o,s.heap.get? b=some o->b∉frs outer->b∉frs (envOfC qual scope s.heap.objs.size f cd::outer):=fun b o q n z=>by
  rcases (fqZ hf).mp z with z|z
  ·exact absurd (Heap.lt_size q) (by rw[z];exact Nat.lt_irrefl _)
  ·exact n z
 show wpAny (model P w) (A.deeper (envOfC qual scope s.heap.objs.size f cd)) (leaving (envOfC qual scope s.heap.objs.size f cd) (.ref e)) _ _ _
 refine wpAny_leaves_madeW (base:=hideAll s1.heap (frs (envOfC qual scope s.heap.objs.size f cd::outer))) (h:=s1.heap) I.ok.frames hf (fun b o q=>of_hideAll _ q)
  (funFrames_hide ae fun aj he b hb=>mem_filterMap.mpr ⟨aj,he,hb⟩) hm fun h2 t x1 x2 x3 x4=>?_
 have ad:∀b o,s.heap.get? b=some o->H b=none->b∉frs outer->(hideAll s1.heap (frs (envOfC qual scope s.heap.objs.size f cd::outer))).get? b=some o:=fun b o q n nf=>
  hideAll_get _ (ib.keep b o q n nf (by simp)) (ne b o q nf)
 have af:∀b o,s.heap.get? b=some o->b∉frs outer->∃o',(hideAll s1.heap (frs (envOfC qual scope s.heap.objs.size f cd::outer))).get? b=some o':=fun b o q nf=>by
  obtain⟨o',z⟩:=ib.there b o q (by simp)
  exact⟨o',hideAll_get _ z (ne b o q nf)⟩
 have ac:∀b,b∈frs outer->∀o,s1.heap.get? b=some o->∃sl,h2.get? b=some {o with slots:=sl}:=fun b hb o q=>by
  obtain⟨_,o2,q2,nd⟩:=ae.mem ((fqZ hf).mpr (.inr hb))
  rw[q] at q2
  cases q2
  exact x4 b o (hm.keeps b o q) nd
 refine⟨e,t,C,_,H1,rfl,hE,⟨I.os,I.bare,fun b o q=>?_,x1,fun a u q=>?_,⟨fun b o q n nf _=>x1.1 b o (ad b o q n nf),fun b o q n hb _=>?_,ib.free,fun b o q _=>?_,ib.tups,ib.frzs,ib.tbls⟩,ad,af⟩⟩
 ·exact hideAll_get _ (I.bk b o q) fun z=>by rw[(ae.mem z).1] at q;cases q
 ·refine (I.hok a u q).stay (fun b v hb z=>hideAll_get _ z fun m=>?_) (fun _ z=>z) fun _ _ z=>z
  have:=ah b m
  rcases hb with rfl|hb
  ·rw[q] at this;cases this
  ·rw[hb] at this;cases this
 ·obtain⟨sl,z⟩:=ib.slot b o q n hb (by simp)
  obtain⟨ag,z'⟩:=ac b hb _ z
  exact⟨ag,z'⟩
 ·by_cases hb:b∈frs outer
  ·obtain⟨o',z⟩:=ib.there b o q (by simp)
   obtain⟨ag,z'⟩:=ac b hb _ z
   exact⟨_,z'⟩
  ·obtain⟨o',z⟩:=af b o q hb
   exact⟨o',x1.1 b o' z⟩
theorem tqc:Passes (CXE P w base) (cxOf (CXE P w base) P w K mg base N qual scope f cd A outer s H E) E:=by
 intro ag σ H1 s1 e s2 I hq
 obtain⟨a,t,C,B,H2,rfl,hE,W⟩:=hq
 have hf:(envOfC qual scope s.heap.objs.size f cd).frame=some s.heap.objs.size:=rfl
 have ib:Un (frs outer) [] H H1 s.heap s1.heap:=I.base
 have W:Flown P w base (envOfC qual scope s.heap.objs.size f cd::outer) H1 s1 a t C B H2 s2:=W
 have ne:∀b o,s.heap.get? b=some o->b∉frs outer->b∉frs (envOfC qual scope s.heap.objs.size f cd::outer):=fun b o q n z=>by
  rcases (fqZ hf).mp z with z|z
  ·exact absurd (Heap.lt_size q) (by rw[z];exact Nat.lt_irrefl _)
  ·exact n z
 show wpAny (model P w) (A.deeper (envOfC qual scope s.heap.objs.size f cd)) (leaving (envOfC qual scope s.heap.objs.size f cd) (.ref a)) _ _ _
 refine wpAny_leaves_onW I.ok.frames hf W.fly fun h3 x1 x2=>?_
 have ad:∀b o,s.heap.get? b=some o->H b=none->b∉frs outer->B.get? b=some o:=fun b o q n nf=>
  W.kb b o (ib.keep b o q n nf (by simp)) (ib.free b o q n (by simp)) (ne b o q nf)
 have ae:∀b o,s.heap.get? b=some o->b∉frs outer->∃o',B.get? b=some o':=fun b o q nf=>by
  obtain⟨o',z⟩:=ib.there b o q (by simp)
  exact W.thB b o' z (ne b o q nf)
 have ac:∀b,b∈frs outer->∀o,s2.heap.get? b=some o->∃sl,h3.get? b=some {o with slots:=sl}:=fun b hb o q=>by
  obtain⟨_,o2,q2,nd⟩:=W.fly.2.2.1.mem ((fqZ hf).mpr (.inr hb))
  rw[q] at q2
  cases q2
  exact x2 b o q nd
 refine⟨a,t,C,B,H2,rfl,hE,⟨W.os.trans I.os,W.bare,W.st,x1,W.hok,⟨fun b o q n nf _=>x1.1 b o (ad b o q n nf),fun b o q n hb _=>?_,fun b o q n _=>?_,fun b o q _=>?_,fun b xs q=>W.un.tups b xs (ib.tups b xs q),fun b o u q=>W.un.frzs b o u (ib.frzs b o u q),fun b ps q=>?_⟩,ad,ae⟩⟩
 ·obtain⟨sl,z⟩:=ib.slot b o q n hb (by simp)
  obtain⟨ah,z1⟩:=W.un.slot b _ z (ib.free b o q n (by simp)) ((fqZ hf).mpr (.inr hb)) (by simp)
  obtain⟨af,z'⟩:=ac b hb _ z1
  exact⟨af,z'⟩
 ·obtain⟨o',z⟩:=ib.there b o q (by simp)
  exact W.un.free b o' z (ib.free b o q n (by simp)) (by simp)
 ·by_cases hb:b∈frs outer
  ·obtain⟨o',z⟩:=ib.there b o q (by simp)
   obtain⟨ai,z1⟩:=W.un.there b o' z (by simp)
   obtain⟨af,z'⟩:=ac b hb _ z1
   exact⟨_,z'⟩
  ·obtain⟨o',z⟩:=ae b o q hb
   exact⟨o',x1.1 b o' z⟩
 ·obtain⟨m1,z⟩:=ib.tbls b ps q
  obtain⟨m2,z2⟩:=W.un.tbls b _ z
  exact⟨m1++m2,by rw[z2,Array.append_assoc]⟩
end
def exO (a C:Addr):HO:=.ext fun h=>∃o,h.get? a=some o∧o.cls=.ref C
abbrev Cx.handling (X:Cx)(e:Value):Cx:={ X with A:=X.A.mark (some e),calm:=false,xe:=fun _ _=>False}
section
variable {X:Cx}{pins:List (Addr×Obj)}{σ:St}{H H1 H2:Hp}{s s1 s2:Shared}
def Inv.handling (e:Value)(I:Inv X pins σ H s):Inv (X.handling e) pins σ H s:=
 ⟨⟨I.ok.mod,I.ok.kind,I.ok.glob,I.ok.blt,I.ok.above,I.ok.inj,I.ok.has,I.ok.cab,(fun z=>by cases z),I.ok.frames,I.ok.stk,I.ok.exf,I.ok.bs,I.ok.bsz,I.ok.noex,I.ok.exfs,I.ok.funs,I.ok.frf⟩,I.os,I.bare,I.base,I.loc,I.cell,I.free,I.freeC,I.pin,I.hok,I.len⟩
def Inv.handled {e:Value}(J:X.Ok)(I:Inv (X.handling e) pins σ H s):Inv X pins σ H s:=⟨J,I.os,I.bare,I.base,I.loc,I.cell,I.free,I.freeC,I.pin,I.hok,I.len⟩
theorem Flown.new {P:Program}{w:World}{base B h5:Heap}{outer:List Env}{a t C:Addr}{a0:Value}(W:Flown P w base outer H1 s1 a t C B H2 s2):H2 a=none:=by
 cases q:H2 a with
 |none=>rfl
 |some u=>
  obtain⟨o,z⟩:=(W.hok a u q).ex
  rw[W.fly.2.1] at z
  cases z
theorem Inv.caught {a t C:Addr}{B h5:Heap}{a0:Value}(I:Inv X pins σ H1 s1)(W:Flown X.prog X.w X.base X.stack H1 s1 a t C B H2 s2)(f5:Heap.FlyingW B X.stack a (.ref C) a0 h5)(sm:s2.heap.UpToSlots h5) :
  Inv X pins σ (upd H2 a (exO a C)) {s2 with heap:=h5}:=by
 have hn:H2 a=none:=W.new (h5:=h5) (a0:=a0)
 obtain⟨oe,vs,T,oT,ts,he,_,hd,_⟩:=W.fly.2.2.2
 have fr:∀b∈frs X.stack,∀o,s2.heap.get? b=some o->b≠a∧∃sl,h5.get? b=some {o with slots:=sl}:=fun b hb o q=>by
  obtain⟨_,o2,q2,nd⟩:=W.fly.2.2.1.mem hb
  rw[q] at q2
  cases q2
  refine⟨fun z=>?_,sm b o q nd⟩
  rw[z,he] at q
  cases q
  exact nd _ hd
 have na:∀b o,s1.heap.get? b=some o->b≠a:=fun b o q=>by
  by_cases hb:b∈frs X.stack
  ·obtain⟨o',z⟩:=W.un.there b o q (by simp)
   exact (fr b hb o' z).1
  ·obtain⟨o',z⟩:=W.thB b o q hb
   rintro rfl
   rw[W.fly.2.1] at z
   cases z
 refine I.call' (H':=upd H2 a (exO a C)) (s':={ s2 with heap:=h5}) (ch:=[]) W.os ⟨fun b o q n nf _=>f5.1 b o (W.kb b o q n nf),fun b o q n hb _=>?_,fun b o q n _=>?_,fun b o q _=>?_,fun b xs q=>?_,fun b o u q=>?_,fun b ps q=>?_⟩ (fun b u q=>?_) W.bare (fun b z=>by cases z)
 ·obtain⟨sl,z⟩:=W.un.slot b o q n hb (by simp)
  obtain⟨_,ac,z'⟩:=fr b hb _ z
  exact⟨ac,z'⟩
 ·rw[aqp (na b o q)]
  exact W.un.free b o q n (by simp)
 ·by_cases hb:b∈frs X.stack
  ·obtain⟨o',z⟩:=W.un.there b o q (by simp)
   obtain⟨_,ac,z'⟩:=fr b hb _ z
   exact⟨_,z'⟩
  ·obtain⟨o',z⟩:=W.thB b o q hb
   exact⟨o',f5.1 b o' z⟩
 ·have z:=W.un.tups b xs q
  rw[aqp (aqn z hn)]
  exact z
 ·have z:=W.un.frzs b o u q
  rw[aqp (aqn z hn)]
  exact z
 ·obtain⟨m,z⟩:=W.un.tbls b ps q
  exact⟨m,by rw[aqp (aqn z hn)];exact z⟩
 ·by_cases hb:b=a
  ·subst hb
   rw[aqm] at q
   cases q
   obtain⟨ob,ad,ae⟩:=f5.there
   exact⟨⟨ob,ad,ae⟩,⟨ob,ad⟩,fun h1 h2 ⟨o,z,c⟩ k=>⟨o,k o z,c⟩⟩
  ·rw[aqp hb] at q
   refine (W.hok b u q).stay (fun c v _ z=>f5.1 c v z) (fun c z=>?_) fun c xs z=>?_
   ·rw[aqp (aqn z hn)];exact z
   ·rw[aqp (aqn z hn)];exact z
theorem Inv.goes {M:Model}{A:Around}{E:Value->Shared->Prop}{i:Nat}{n:Str}{pos:Pos}{Q:Unit->Shared->Prop}(I:Inv X pins σ H s)(nd:X.N.Nodup)(hi:X.N[i]?=some n)(hl:X.env.scope.names.lookup n=some .local)
  (h:∀s',Inv X pins (σ.set i none) H s'->Q () s'):wpAny M A (do bindName X.env n .none;unbindBehindTheSuite X.env n pos) Q E s:=by
 obtain⟨m,hn,af⟩:=id I.loc
 have ad:(X.env.scope.kind == .class || (X.env.scope.kind == .module && X.env.locals != X.env.globals))=false:=by rw[I.ok.kind];rfl
 have hiσ:i < σ.length:=by rw[I.len];exact (List.getElem?_eq_some_iff.mp hi).1
 refine wpAny_nameGoes_keeps hl hn ad fun h' v ae hs=>h _ ?_
 have ac:∀b o,X.s₀.heap.get? b=some o->b≠X.env.locals:=fun b o e=>Nat.ne_of_lt (Nat.lt_of_lt_of_le (Heap.lt_size e) I.ok.above)
 refine⟨I.ok,I.os,I.bare,⟨fun b o e z hb hx=>(hs.2 b (ac b o e)).trans (I.base.keep b o e z hb hx),fun b o e z hb hx=>?_,I.base.free,fun b o e hx=>?_,I.base.tups,I.base.frzs,I.base.tbls⟩,⟨_,ae,fun j y v' e1 e2 e3=>?_⟩,fun y c e=>?_,I.free,I.freeC,fun p hp=>?_,fun b ob e=>?_,by simpa using I.len⟩
 ·obtain⟨sl,e1⟩:=I.base.slot b o e z hb hx
  exact⟨sl,(hs.2 b (ac b o e)).trans e1⟩
 ·obtain⟨o',e1⟩:=I.base.there b o e hx
  exact⟨o',(hs.2 b (ac b o e)).trans e1⟩
 ·by_cases hj:j=i
  ·subst hj
   rw[List.getElem?_set_self hiσ] at e2
   cases e2
  ·rw[List.getElem?_set_ne (Ne.symm hj)] at e2
   obtain⟨u',r',q⟩:=af j y v' e1 e2 e3
   refine⟨u',r',?_⟩
   rcases q with⟨k,e⟩|⟨k,c,e,z⟩
   ·refine .inl ⟨k,?_⟩
    have:y≠n:=fun e=>hj (nqD nd e1 (e▸hi))
    simp[this,e]
   ·exact .inr ⟨k,c,e,z.sameBut hs (I.cne y c e)⟩
 ·obtain⟨w',z⟩:=I.cell y c e
  exact⟨w',z.sameBut hs (I.cne y c e)⟩
 ·obtain⟨e,n1,ne,nf,d⟩:=I.pin p hp
  exact⟨(hs.2 p.1 ne).trans e,n1,ne,nf,d⟩
 ·refine (I.hok b ob e).stay (fun c w' hc q=>(hs.2 c ?_).trans q) (fun _ q=>q) fun _ _ q=>q
  rintro rfl
  rcases hc with rfl|hc
  ·rw[I.free] at e;cases e
  ·rw[I.free] at hc;cases hc
end
structure Catch (K:Frag)(W:Addr):Prop where
 ty:typeIn K (.ref W)=some (.type "type")
 ex:subIn K (.ref W) (.type "BaseException")=some true
 cl:(clsIn K W).isSome=true
theorem iqi {K:Frag}{M:Model}{h:Heap}{a W C:Addr}{o:Obj}(kin:K.In h)(ha:h.get? a=some o)(hc:o.cls=.ref C)(cw:Catch K W)(hs:subIn K (.ref C) (.ref W)=some true):Looks M h (excMatches (.ref a) (.ref W)) true:=by
 have L1:=looks_typeIn (M:=M) kin cw.ty
 have L2:=looks_subIn (M:=M) kin cw.ex
 have L3:=looks_subIn (M:=M) kin hs
 have L4:Looks M h (typeOf (.ref a)) (.ref C):=hc▸(Looks.ld ha).andThen .now
 have L5:Looks M h (isInstance (.ref W) (.type "tuple")) false:=L1.andThen (Looks.of_pure tc_notTuple)
 have L6:Looks M h (isType (.ref W)) true:=by
  have z:=cw.cl
  unfold clsIn at z
  split at z
  ·next lk=>
   intro A' Q' E' s' k q
   unfold isType loadHead
   exact wpAny_bind (wpAny_loadPart (k _ _ (kin _ _ lk)) (wpAny_pure q))
  ·cases z
 intro A Q E s k q
 unfold excMatches isExcClass
 refine wpAny_bind (L5 A _ E s k ?_)
 simp only[Bool.false_eq_true,if_false]
 refine wpAny_bind (wpAny_pure ?_)
 refine wpAny_bind ?_
 rw[forIn_cons]
 refine wpAny_bind (wpAny_bind (wpAny_bind (L6 A _ E s k ?_)))
 simp only[if_true]
 refine L2 A _ E s k ?_
 simp only[Bool.not_true,Bool.false_eq_true,if_false]
 refine wpAny_pure ?_
 dsimp only
 rw[forIn_nil]
 refine wpAny_pure ?_
 refine wpAny_bind (L4 A _ E s k ?_)
 refine wpAny_bind ?_
 rw[forIn_cons]
 refine wpAny_bind (wpAny_bind (L3 A _ E s k ?_))
 simp only[if_true]
 refine wpAny_pure ?_
 dsimp only
 exact wpAny_pure (wpAny_pure q)
def tTry (K:Frag)(sp:Sp)(t:TA)(W:Addr)(i:Nat)(tb:TS):TS:=fun D σ H=>t σ H fun vs H1=>sp vs H1 (fun _ H2=>D.nx σ H2) fun cls _ H2=>
 ∃C,cls=.ref C∧subIn K (.ref C) (.ref W)=some true∧∀a,H2 a=none->tb {nx:=fun σ' H'=>D.nx (σ'.set i none) H',rt:=D.rt} (σ.set i (some (.ref a))) (upd H2 a (exO a C))
end L2
namespace L2
open PySem PySem.Spec PySem.W PySem.Calls PyProof.Rows PySem.Builtin PySem.Builtin.ObjectAttr PySem.Builtin.Getset_descriptor
structure ExLook (K:Frag)(C:Addr):Prop where
 ga:findIn K (.ref C) "__getattribute__"=some (some (.builtin "BaseException.__getattribute__"))
 cl:findIn K (.ref C) "__class__"=some (some (.builtin "object.__class__"))
 na:findIn K (.ref C) "__getattr__"=some none
 mo:mroIn K C (.type "object")=some true
 mb:mroIn K C (.type "BaseException")=some true
 is:(clsIn K C).isSome=true
section
variable {prog:Program}{w:World}{A:Around}{E:Value->Shared->Prop}{hh:Heap}{g:Array GenState}{dr:Drawn}{t:Nat}{os:OsState}{K:Frag}{a C:Addr}{o:Obj}
def qqM {M:Model}(hx:hh.get? a=some o)(hc:o.cls=.ref C):Looks M hh (typeOf (.ref a)) (.ref C):=hc▸(Looks.ld hx).andThen .now
theorem oqr {M:Model}{nv:Value}{Q:Unit->Shared->Prop}(kin:K.In hh)(hx:hh.get? a=some o)(hc:o.cls=.ref C)(L:ExLook K C)(hq:Q () ⟨hh,g,dr,t,os⟩) :
  wpAny M A (checkBuiltinCall "BaseException.__getattribute__" ⟨[.ref a,nv],[]⟩) Q E ⟨hh,g,dr,t,os⟩:=by
 have lt:=qqM (M:=M) hx hc;have lb:=looks_mroIn (M:=M) kin L.mb
 have z1:builtinKind "BaseException.__getattribute__"=some .slot:=by decide +kernel
 have z2:splitId "BaseException.__getattribute__"=some ("BaseException","__getattribute__"):=by decide +kernel
 have z3:=F.args_bexc_ga (.ref a) nv
 simp only[checkBuiltinCall,z1,z2];refine wpAny_bind ?_;unfold isInstance
 repeat (first|with_reducible refine Looks.at lt ?_|with_reducible refine Looks.at lb ?_|wp_step)
 exact hq
end
inductive KitAns (K:Frag)(H:Hp)(C:Addr):V->Bool->Prop
 |cls {W:Addr}{b:Bool}:kitOne K (.ref C) (.ref W)=some b->KitAns K H C (.ref W) b
 |ty {T:String}{b:Bool}:kitOne K (.ref C) (.type T)=some b->KitAns K H C (.ty T) b
 |tup {p:Addr}{cs:List Addr}{b:Bool}:H p=some (.tup (cs.map V.ref))->kitAny K (.ref C) (cs.map Value.ref)=some b->KitAns K H C (.ref p) b
def rIsE (K:Frag):List V->Hp->VK->Prop:=fun vs H Q=>∃a c C b,vs=[.ref a,c]∧H a=some (exO a C)∧ExLook K C∧KitAns K H C c b∧Q (.bl b) H
end L2
namespace L2
open PySem PySem.W
def Aqf {K:Frag}{a:Addr}{c:V}{H:Hp}{Q:VK}:rIsE K [.ref a,c] H Q↔∃C b,H a=some (exO a C)∧ExLook K C∧KitAns K H C c b∧Q (.bl b) H:=
 ⟨fun⟨_,_,C,b,e,h⟩=>by cases e;exact⟨C,b,h⟩,fun⟨C,b,h⟩=>⟨a,c,C,b,rfl,h⟩⟩
def zqD {K:Frag}{sp:Sp}{t:TA}{W:Addr}{i:Nat}{tb:TS}{D:Ends}{σ:St}{H:Hp}:tTry K sp t W i tb D σ H↔t σ H fun vs H1=>sp vs H1 (fun _ H2=>D.nx σ H2) fun cls _ H2=>
 ∃C,cls=.ref C∧subIn K (.ref C) (.ref W)=some true∧∀a,H2 a=none->tb {nx:=fun σ' H'=>D.nx (σ'.set i none) H',rt:=D.rt} (σ.set i (some (.ref a))) (upd H2 a (exO a C)):=Iff.rfl
end L2
namespace L2
open PySem PySem.Spec PyProof.Rows
theorem sw3 (x y:Str)(t u:Tok)(i:Nat)(v:Tok) :
  Meets (Builtin.«str.startswith» ⟨[.str x t,.str y u,.int (i:Int) v],[]⟩) (fun _ R s=>R (.ok (.ret (.bool (decide (i+y.length≤x.length) && Builtin.Str.subAt x y i)))) s):=
 .of_wp fun prog w A R s h=>by
  obtain⟨hp,g,d,tk,os⟩:=s
  unfold Builtin.«str.startswith»
  wp_walk
  rw[F.slot_int_index.lookup]
  wp_walk
  refine⟨_,rfl,?_⟩
  have e1:(max (0:Int) (if (i:Int) < 0 then (i:Int)+(x.length:Int) else (i:Int))).toNat=i:=by
   rw[if_neg (by lia)];lia
  have e2:min ((x.length:Nat):Int).toNat x.length=x.length:=by lia
  dsimp only
  rw[e1,e2]
  exact h
section
variable {X:Cx}
def rStarts:V->List V->Hp->VK->Prop:=fun x vs H Q=>∃z y,∃i:Nat,x=.str z∧vs=[.str y,.int (i:Int)]∧Q (.bl (decide (i+y.length≤z.length) && Builtin.Str.subAt z y i)) H
def rqx:MtR X "str.startswith" rStarts:=by
 intro ac s σ H x vs v us Q I rx rv h
 obtain⟨z,y,i,rfl,rfl,q⟩:=h
 obtain⟨t,rfl⟩:=rx
 obtain⟨u1,u2,rfl,r1,r2⟩:=vals2 rv
 obtain⟨t1,rfl⟩:=r1
 obtain⟨t2,rfl⟩:=r2
 exact call_meets F.slot_str_startswith (typeIs_str _ _ _) F.entry_str_startswith (F.args_str_startswith_3 _ _ _) (sw3 z y t t1 i t2) ⟨.bl _,H,I,rfl,q⟩
end
section
variable {X:Cx}
def rPart:V->List V->Hp->VK->Prop:=fun x vs H Q=>∃z y,x=.str z∧vs=[.str y]∧(y.length == 0)=false∧z.length≤sizeLine ∧
 ∀p,H p=none->Q (.ref p) (upd H p (.tup [.str (Txt.partition z y).1,.str (Txt.partition z y).2.1,.str (Txt.partition z y).2.2]))
theorem oqI:MtR X "str.partition" rPart:=by
 intro ac s σ H x vs v us Q I rx rv h
 obtain⟨z,y,rfl,rfl,hy,hz,q⟩:=h
 obtain⟨t,rfl⟩:=rx
 obtain⟨u,rfl,t',rfl⟩:=vals1 rv
 have hf:H s.heap.objs.size=none:=I.hok.fresh (Nat.le_refl _)
 have q:=q _ hf
 refine call_meets F.slot_str_partition (typeIs_str _ _ _) F.entry_str_partition (F.args_str_partition_2 _ _) (meets_str_partition z y t t' hy hz) ?_
 unfold Txt.partition at q
 revert q
 cases Builtin.Str.occurrences z y 0 z.length 1 with
 |nil=>
  intro q
  refine⟨.ref s.heap.objs.size,_,I.laid (t':=s.toks+1) (o:=.tup _) (fun b u e=>Heap.get?_push_of_some _ e) (by lia) ?_,rfl,q⟩
  exact⟨by show 3≤sizeLine;decide,_,.cons ⟨_,rfl⟩ (.cons ⟨_,rfl⟩ (.cons ⟨_,rfl⟩ .nil)),IsTup.new _ _⟩
 |cons i r=>
  intro q
  refine⟨.ref s.heap.objs.size,_,I.laid (t':=s.toks+1+1) (o:=.tup _) (fun b u e=>Heap.get?_push_of_some _ e) (by lia) ?_,rfl,q⟩
  exact⟨by show 3≤sizeLine;decide,_,.cons ⟨_,rfl⟩ (.cons ⟨_,rfl⟩ (.cons ⟨_,rfl⟩ .nil)),IsTup.new _ _⟩
end
theorem tqU {us:List Value}{d:Value}(h:(us++[d]).length=3):∃x y,us=[x,y]:=by
 match us,h with
 |[x,y],_=>exact⟨x,y,rfl⟩
 |[],h=>simp at h
 |[_],h=>simp at h
 |_::_::_::_,h=>simp at h
section
variable {X:Cx}
def rIntS:List V->Hp->VK->Prop:=fun xs H Q=>∃z n,xs=[.str z]∧z.length≤640∧PySem.intText? z=some n∧Q (.int n) H
def oqs:CallR X (.type "int") rIntS:=by
 intro pins s σ H xs us Q I r h
 obtain⟨z,n,rfl,hz,hn,q⟩:=h
 obtain⟨u,rfl,t,rfl⟩:=vals1 r
 exact PySem.W.KIN.call_text hn hz ⟨.int n,H,I.tok _,⟨_,rfl⟩,q⟩
def yqB {z:Str}{H:Hp}{Q:VK}:rIntS [.str z] H Q↔∃n,z.length≤640∧PySem.intText? z=some n∧Q (.int n) H:=
 ⟨fun⟨_,n,e,h⟩=>by cases e;exact⟨n,h⟩,fun⟨n,h⟩=>⟨z,n,rfl,h⟩⟩
def zqa {z y:Str}{i:Nat}{H:Hp}{Q:VK}:rStarts (.str z) [.str y,.int (i:Int)] H Q↔Q (.bl (decide (i+y.length≤z.length) && Builtin.Str.subAt z y i)) H:=
 ⟨fun⟨_,_,j,e1,e2,h⟩=>by
  cases e1
  injection e2 with e2 e3
  cases e2
  injection e3 with e3
  injection e3 with e3
  obtain rfl:i=j:=by lia
  exact h,fun h=>⟨z,y,i,rfl,rfl,h⟩⟩
def wqz {z y:Str}{H:Hp}{Q:VK}:rPart (.str z) [.str y] H Q↔(y.length == 0)=false∧z.length≤sizeLine∧∀p,H p=none->Q (.ref p) (upd H p (.tup [.str (Txt.partition z y).1,.str (Txt.partition z y).2.1,.str (Txt.partition z y).2.2])):=
 ⟨fun⟨_,_,e1,e2,h⟩=>by cases e1;cases e2;exact h,fun h=>⟨z,y,rfl,rfl,h⟩⟩
def Aqw {K:W.Frag}{ta:TE}{f:Str}{σ:St}{H:Hp}{Q:VK}:(tFld K ta f σ H Q)=(ta σ H fun x H1=>∃a C dx fs v,x=.ref a∧H1 a=some (.ins C dx fs)∧Cls K C∧NoAttr K C f∧fs.lookup f=some v∧Q v H1):=rfl
def wqZ {K:W.Frag}{ta tv:TE}{f:Str}{D:Ends}{σ:St}{H:Hp}:(sFld K ta tv f D σ H)=(tv σ H fun y H1=>ta σ H1 fun x H2=>∃a C dx fs,x=.ref a∧H2 a=some (.ins C dx fs)∧Cls K C∧NoAttr K C f∧fs.length < 1000∧D.nx σ (upd H2 a (.ins C dx (putF f y fs)))):=rfl
def xq7 {C:Addr}{m:Str}{sp:Sp}{dvs:List V}{E:XK}{ta:TE}{t:TA}{σ:St}{H:Hp}{Q:VK}:(tMeth C m sp dvs E ta t σ H Q)=(ta σ H fun x H1=>∃a dx fs,x=.ref a∧H1 a=some (.ins C dx fs)∧fs.lookup m=none∧t σ H1 fun vs H2=>sp (x::(vs++dvs)) H2 Q E):=rfl
def wqQ {C:Addr}{sp:Sp}{dvs:List V}{E:XK}{t:TA}{σ:St}{H:Hp}{Q:VK}:(tMake C sp dvs E t σ H Q)=(t σ H fun vs H1=>∀x dx,H1 x=none->H1 dx=none->dx≠x->sp (.ref x::(vs++dvs)) (upd (upd H1 dx (.own x)) x (.ins C dx [])) (fun v H2=>v=.non∧Q (.ref x) H2) E):=rfl
end
end L2
namespace Wm
open PySem L2
theorem wqw (t w:List Nat)(i:Nat)(hi:i≤t.length):(decide (i+(⟨w.toArray⟩:Str).length≤(⟨t.toArray⟩:Str).length) && Builtin.Str.subAt ⟨t.toArray⟩ ⟨w.toArray⟩ i)=decide ((t.drop i).take w.length=w):=by
 rw[aqT,aqT]
 have e:Builtin.Str.subAt ⟨t.toArray⟩ ⟨w.toArray⟩ i=decide ((t.drop i).take w.length=w):=by
  unfold Builtin.Str.subAt
  rw[aqT,Bool.eq_iff_iff,beq_iff_eq,decide_eq_true_eq]
  show (t.toArray.extract i (i+w.length)=w.toArray)↔_
  rw[<- Array.toList_inj]
  simp
 rw[e]
 by_cases h:(t.drop i).take w.length=w
 ·have hl:=congrArg List.length h
  rw[length_take,length_drop] at hl
  rw[decide_eq_true h,Bool.and_true]
  by_cases hw:w.length=0
  ·rw[hw,Nat.add_zero]
   exact decide_eq_true hi
  ·exact decide_eq_true (by lia)
 ·rw[decide_eq_false h,Bool.and_false]
theorem occ1 (x y:Str):∀(l:List Nat) (free:Nat),(∀i∈l,free≤i) ->
  (forIn l ((#[]:Array Nat),free) (StrLaws.occBody x y x.length 1)).run.fst.toList=(l.find? fun i=>decide (i+y.length≤x.length) && Builtin.Str.subAt x y i).toList
 |[],free,_=>rfl
 |a::l,free,hf=>by
  rw[forIn_cons,List.find?_cons]
  have ha:free≤a:=hf a (mem_cons_self ..)
  by_cases hc:a+y.length≤x.length∧Builtin.Str.subAt x y a=true
  ·have e:(decide (a+y.length≤x.length) && Builtin.Str.subAt x y a)=true:=by rw[decide_eq_true hc.1,hc.2];rfl
   rw[e]
   unfold StrLaws.occBody
   rw[if_pos ⟨⟨⟨by simp,ha⟩,hc.1⟩,hc.2⟩]
   have full:∀(l:List Nat) (st:Array Nat×Nat),st.1.size=1->(forIn l st (StrLaws.occBody x y x.length 1)).run.fst=st.1:=by
    intro l
    induction l with
    |nil=>intro st _;rfl
    |cons b l ih=>
     intro st hs
     rw[forIn_cons]
     unfold StrLaws.occBody
     rw[if_neg (fun h=>by have:=h.1.1.1;lia)]
     exact ih st hs
   show (forIn l ((#[]:Array Nat).push a,a+y.length) (StrLaws.occBody x y x.length 1)).run.fst.toList=_
   rw[full l _ (by simp)]
   simp
  ·have e:(decide (a+y.length≤x.length) && Builtin.Str.subAt x y a)=false:=by
    cases h1:Builtin.Str.subAt x y a with
    |false=>rw[Bool.and_false]
    |true=>rw[Bool.and_true];exact decide_eq_false fun z=>hc ⟨z,h1⟩
   rw[e]
   unfold StrLaws.occBody
   rw[if_neg (fun h=>hc ⟨h.1.2,h.2⟩)]
   exact occ1 x y l free fun i hi=>hf i (mem_cons_of_mem _ hi)
def ahead (t:List Nat):List Nat:=t.takeWhile fun c=>decide (c≠58)
theorem uqX (t:List Nat)(i:Nat):(decide (i+(⟨[58].toArray⟩:Str).length≤(⟨t.toArray⟩:Str).length) && Builtin.Str.subAt ⟨t.toArray⟩ ⟨[58].toArray⟩ i)=decide (t[i]?=some 58):=by
 by_cases hi:i≤t.length
 ·rw[wqw t [58] i hi,decide_eq_decide]
  cases h:t.drop i with
  |nil=>
   have:t[i]?=none:=List.getElem?_eq_none (by have:=congrArg List.length h;rw[length_drop,length_nil] at this;lia)
   rw[this]
   simp
  |cons c r=>
   have:t[i]?=some c:=by rw[<- List.head?_drop,h];rfl
   rw[this]
   simp
 ·rw[List.getElem?_eq_none (by lia),aqT,aqT,decide_eq_false (by rw[length_singleton];lia)]
  rfl
theorem sqq (t:List Nat):∀(k:Nat),k≤t.length->(t.take k).all (fun c=>decide (c≠58))=true ->
  ((List.range' k (t.length+1 - k)).find? fun i=>decide (t[i]?=some 58))=if 58∈t then some (ahead t).length else none:=by
 intro k
 induction hn:t.length - k generalizing k with
 |zero=>
  intro hk ha
  have e:k=t.length:=by lia
  subst e
  rw[take_length] at ha
  have ae:58∉t:=fun h=>by have:=all_eq_true.mp ha 58 h;simp at this
  rw[if_neg ae,show t.length+1 - t.length=1 by lia]
  simp
 |succ n ih=>
  intro hk ha
  have ad:k < t.length:=by lia
  have hc:t[k]?=some t[k]:=List.getElem?_eq_getElem ad
  rw[show t.length+1 - k=(t.length+1 - (k+1))+1 by lia,List.range'_succ,List.find?_cons,hc]
  by_cases ac:t[k]=58
  ·rw[ac]
   simp only[decide_true]
   rw[if_pos (by rw[<- ac];exact getElem_mem ad)]
   congr 1
   have ht:t=t.take k++58::t.drop (k+1):=by
    rw[<- ac,List.getElem_cons_drop,take_append_drop]
   unfold ahead
   rw[ht,List.takeWhile_append_of_pos (fun c af=>all_eq_true.mp ha c af),List.takeWhile_cons_of_neg (by simp)]
   simp;lia
  ·rw[show decide (some t[k]=some 58)=false from decide_eq_false (by simpa using ac)]
   refine ih (k+1) (by lia) (by lia) ?_
   rw[take_add_one,hc,all_append,ha]
   simpa using ac
theorem rqZ (t:List Nat):(Txt.partition ⟨t.toArray⟩ ⟨[58].toArray⟩).1=⟨(ahead t).toArray⟩:=by
 have e:Builtin.Str.occurrences (⟨t.toArray⟩:Str) ⟨[58].toArray⟩ 0 (⟨t.toArray⟩:Str).length 1=(if 58∈t then some (ahead t).length else none).toList:=by
  rw[StrLaws.occ_eq,occ1 _ _ _ _ (fun i _=>Nat.zero_le i)]
  simp only[uqX]
  rw[aqT]
  exact congrArg Option.toList (sqq t 0 (Nat.zero_le _) rfl)
 unfold Txt.partition
 rw[e]
 by_cases h:58∈t
 ·rw[if_pos h]
  show Builtin.Str.strSub ⟨t.toArray⟩ 0 (ahead t).length=_
  unfold Builtin.Str.strSub
  have hp:t.take (ahead t).length=ahead t:=(List.prefix_iff_eq_take.mp (List.takeWhile_prefix _)).symm
  rw[<- hp,length_take]
  have:(ahead t).length≤t.length:=(List.takeWhile_prefix _).length_le
  rw[show min (ahead t).length t.length=(ahead t).length by lia]
  show (⟨t.toArray.extract 0 (ahead t).length⟩:Str)=_
  simp
 ·rw[if_neg h]
  have ac:∀l:List Nat,58∉l->ahead l=l:=fun l=>by
   induction l with
   |nil=>intro _;rfl
   |cons c l ih=>
    intro hl
    have h1:c≠58:=fun z=>hl (by rw[z];exact mem_cons_self ..)
    unfold ahead
    rw[List.takeWhile_cons,if_pos (decide_eq_true h1)]
    exact congrArg (c::·) (ih fun z=>hl (mem_cons_of_mem _ z))
  have:ahead t=t:=ac t h
  rw[this]
  rfl
def Cur (H:Hp)(C p:Addr)(t:List Nat)(k:Nat):Prop:=∃dx,H p=some (.ins C dx [("text",.str ⟨t.toArray⟩),("place",.int (k:Int))])
inductive WrT (fr:List Nat):List Nat->List Nat->Prop
 |nil:WrT fr [] []
 |self {c:Nat}{s w:List Nat}:(isPl c=true∨c∈fr)->c≠126->WrT fr s w->WrT fr (c::s) (c::w)
 |pair {c a b:Nat}{s w:List Nat}:sgO a b=some c->WrT fr s w->WrT fr (c::s) (126::a::b::w)
def Stops (fr r:List Nat):Prop:=∀c,r.head?=some c->isPl c=false∧c∉fr∧c≠126
def moV:Option Nat->V
 |none=>.non
 |some m=>.int (m:Int)
theorem lqt {fr s:List Nat}(h:∀c∈s,isSg c=true):WrT fr s (wr s):=by
 induction s with
 |nil=>exact .nil
 |cons c s ih=>
  have hc:=h c (mem_cons_self ..)
  have ih:=ih fun d hd=>h d (mem_cons_of_mem _ hd)
  show WrT fr (c::s) (wr1 c++wr s)
  unfold wr1
  by_cases hp:isPl c=true
  ·rw[if_pos hp]
   exact .self (.inl hp) (fun z=>by rw[z] at hp;cases hp) ih
  ·rw[if_neg hp]
   exact .pair (wq4 hc) ih
def wqi {a n:Nat}(h:fig a=some n):a < 128∧n < 16∧(n < 10->a=48+n):=by
 unfold fig at h
 split at h
 ·cases h;lia
 ·split at h
  ·cases h;lia
  ·split at h
   ·cases h;lia
   ·cases h
theorem sqM {a b c:Nat}(h:sgO a b=some c):a∈(Str.ofString "234567").cps.toList∧a < 128∧b < 128∧isSg c=true:=by
 unfold sgO at h
 cases ha:fig a with
 |none=>simp[ha] at h
 |some n=>
  cases hb:fig b with
  |none=>simp[ha,hb] at h
  |some m=>
   simp only[ha,hb] at h
   split at h
   ·next hs=>
    cases h
    obtain⟨a1,a2,a3⟩:=wqi ha
    obtain⟨b1,b2,_⟩:=wqi hb
    have hr:=hs
    simp only[isSg,Bool.and_eq_true,decide_eq_true_eq] at hr
    have e:=a3 (by lia)
    refine⟨?_,a1,b1,hs⟩
    have ac:∀n,n < 8->2≤n->48+n∈(Str.ofString "234567").cps.toList:=by decide +kernel
    rw[e]
    exact ac n (by lia) (by lia)
   ·cases h
section
variable {K:W.Frag}{H:Hp}{C p:Addr}{t:List Nat}{i:Nat}
def xqN {v u:V}:List.lookup (Str.ofString "text") [(Str.ofString "text",v),(Str.ofString "place",u)]=some v:=by
 rw[lookup_cons,beq_self_eq_true]
def uqN {v u:V}:List.lookup (Str.ofString "place") [(Str.ofString "text",v),(Str.ofString "place",u)]=some u:=by
 rw[lookup_cons,show (Str.ofString "place" == Str.ofString "text")=false by decide +kernel,lookup_cons,beq_self_eq_true]
def gqa {R:V->Prop}(h:Cur H C p t i)(cl:Cls K C)(n:NoAttr K C "text")(r:R (.str ⟨t.toArray⟩)):∃a C dx fs v,p=a∧H a=some (.ins C dx fs)∧Cls K C∧NoAttr K C (Str.ofString "text")∧List.lookup (Str.ofString "text") fs=some v∧R v:=
 let ⟨dx,hp⟩:=h
 ⟨p,C,dx,_,_,rfl,hp,cl,n,xqN,r⟩
def cqp {R:V->Prop}(h:Cur H C p t i)(cl:Cls K C)(n:NoAttr K C "place")(r:R (.int (i:Int))):∃a C dx fs v,p=a∧H a=some (.ins C dx fs)∧Cls K C∧NoAttr K C (Str.ofString "place")∧List.lookup (Str.ofString "place") fs=some v∧R v:=
 let ⟨dx,hp⟩:=h
 ⟨p,C,dx,_,_,rfl,hp,cl,n,uqN,r⟩
def tqg {v u w:V}:putF (Str.ofString "place") w [(Str.ofString "text",v),(Str.ofString "place",u)]=[(Str.ofString "text",v),(Str.ofString "place",w)]:=by
 have h:Str.ofString "text" ≠ Str.ofString "place" := by decide +kernel
 simp only[putF,if_neg h,if_true]
def pqh {N:Hp->Prop}{z:Int}(h:Cur H C p t i)(cl:Cls K C)(n:NoAttr K C "place")(j:Nat)(hz:z=(j:Int))(hN:∀H',SameBut p H H'->Cur H' C p t j->N H') :
  ∃a C dx fs,p=a∧H a=some (.ins C dx fs)∧Cls K C∧NoAttr K C (Str.ofString "place")∧fs.length < 1000∧N (upd H a (.ins C dx (putF (Str.ofString "place") (.int z) fs))):=by
 obtain⟨dx,hp⟩:=h
 refine⟨p,C,dx,_,rfl,hp,cl,n,by show 2 < 1000;decide,?_⟩
 rw[tqg,hz]
 exact hN _ iqq ⟨dx,aqm⟩
def xqI {m:Str}{v u:V}(h1:(m == Str.ofString "text")=false)(h2:(m == Str.ofString "place")=false):List.lookup m [(Str.ofString "text",v),(Str.ofString "place",u)]=none:=by
 rw[lookup_cons,h1,lookup_cons,h2];rfl
def aqu {R:Prop}{m:Str}(h:Cur H C p t i)(r:R)(h1:(m == Str.ofString "text")=false:=by decide +kernel)(h2:(m == Str.ofString "place")=false:=by decide +kernel) :
  ∃a dx fs,p=a∧H a=some (.ins C dx fs)∧List.lookup m fs=none∧R:=
 let ⟨dx,hp⟩:=h
 ⟨p,dx,_,rfl,hp,xqI h1 h2,r⟩
def Cur.same {H':Hp}(h:Cur H C p t i)(s:Same H H'):Cur H' C p t i:=let ⟨dx,hp⟩:=h;⟨dx,s _ _ hp⟩
end
def plS:List Nat:=(Str.ofString "abcdefghijklmnopqrstuvwxyzABCDEFGHIJKLMNOPQRSTUVWXYZ0123456789-_.").cps.toList
def uqu:plS.length=65:=by decide +kernel
def qqE {c:Nat}(h:c < 128):(c∈plS)↔isPl c=true:=by
 have:=qq7 c h
 rw[<- this,decide_eq_true_eq]
 exact Iff.rfl
def seesB (t sg:List Nat)(i:Nat):Bool:=((t[i]?).map fun c=>decide (c∈sg)).getD false
def bqi {t sg:List Nat}{i c:Nat}(h:t[i]?=some c):seesB t sg i=decide (c∈sg):=by unfold seesB;rw[h];rfl
def hqy {t sg:List Nat}{i:Nat}(h:t[i]?=none):seesB t sg i=false:=by unfold seesB;rw[h];rfl
def jq6 {t w:List Nat}{i c:Nat}(h:t.drop i=c::w):t[i]?=some c∧i < t.length:=by
 have e:t[i]?=some c:=by rw[<- List.head?_drop,h];rfl
 exact⟨e,(List.getElem?_eq_some_iff.mp e).1⟩
theorem xqG {fr s w:List Nat}(h:WrT fr s w):s.length≤w.length:=by
 induction h with
 |nil=>exact Nat.le_refl _
 |self _ _ _ ih=>simp only[length_cons];lia
 |pair _ _ ih=>simp only[length_cons];lia
def frS:List Nat:=(Str.ofString "!$'()*,;@&=+").cps.toList
def frQ:List Nat:=(Str.ofString "!$'()*,;@+/?:").cps.toList
def frM:List Nat:=(Str.ofString "!$'()*,;@&=+/?:").cps.toList
def lqu:frS.length≤100:=by decide +kernel
def nqF:frQ.length≤100:=by decide +kernel
def xqX:frM.length≤100:=by decide +kernel
def lqc {fr:List Nat}:Stops fr []:=fun c h=>by cases h
def cqX {fr r:List Nat}{c:Nat}(h:isPl c=false∧c∉fr∧c≠126):Stops fr (c::r):=fun d e=>by cases e;exact h
def MarW (o:Option (List Nat))(w:List Nat):Prop:=match o with
 |none=>w=[]
 |some s=>∃v,w=35::v∧WrT frM s v
def ValW (o:Option (List Nat))(w:List Nat):Prop:=match o with
 |none=>w=[]
 |some s=>∃v,w=61::v∧WrT frQ s v
def HouW (o:Option (List Nat))(w:List Nat):Prop:=match o with
 |none=>w=[]
 |some s=>∃v,w=47::47::v∧WrT [] s v∧s≠[]∧s.length≤60
inductive TlW:List (List Nat)->Bool->List Nat->Prop
 |stop:TlW [] false []
 |ends:TlW [] true [47]
 |more {s w:List Nat}{ss:List (List Nat)}{e:Bool}{v:List Nat}:WrT frS s w->s≠[]->TlW ss e v->TlW (s::ss) e (47::(w++v))
inductive StpW:List (List Nat)->Bool->List Nat->Prop
 |none {e:Bool}:StpW [] e []
 |some {s w:List Nat}{ss:List (List Nat)}{e:Bool}{v:List Nat}:WrT frS s w->s≠[]->TlW ss e v->StpW (s::ss) e (w++v)
def tqC:(47:Nat)∉frS:=by decide +kernel
theorem qqA {fr s w:List Nat}(h:WrT fr s w)(hs:s≠[]):∃c r,w=c::r∧(isPl c=true∨c∈fr∨c=126):=by
 cases h with
 |nil=>exact absurd rfl hs
 |self a _ _=>exact⟨_,_,rfl,a.elim .inl (fun z=>.inr (.inl z))⟩
 |pair _ _=>exact⟨_,_,rfl,.inr (.inr rfl)⟩
theorem qqY {ss:List (List Nat)}{e:Bool}{v rest:List Nat}(h:TlW ss e v)(hr:Stops frS rest):Stops frS (v++rest):=by
 cases h with
 |stop=>exact hr
 |ends=>exact cqX ⟨by decide,tqC,by decide⟩
 |more _ _ _=>exact cqX ⟨by decide,tqC,by decide⟩
theorem rqi {ss:List (List Nat)}{e:Bool}{v rest:List Nat}(h:StpW ss e v)(hr:rest.head?≠some 47):(v++rest).head?≠some 47:=by
 cases h with
 |none=>exact hr
 |some hw hs _=>
  obtain⟨c,r,rfl,hc⟩:=qqA hw hs
  intro z
  have e:c=47:=Option.some.inj z
  subst e
  rcases hc with z|z|z
  ·cases z
  ·exact tqC z
  ·cases z
theorem yqw {ss:List (List Nat)}{e:Bool}{v:List Nat}(h:TlW ss e v):ss.length≤v.length:=by
 induction h with
 |stop=>exact Nat.le_refl _
 |ends=>exact Nat.zero_le _
 |more _ _ _ ih=>simp only[length_cons,length_append];lia
theorem uq9 {ss:List (List Nat)}{e:Bool}{v:List Nat}(h:StpW ss e v):ss.length≤v.length:=by
 cases h with
 |none=>exact Nat.le_refl _
 |some hw hs ht=>
  obtain⟨c,r,rfl,_⟩:=qqA hw hs
  have:=yqw ht
  simp only[length_cons,length_append];lia
inductive PrsW:List (List Nat×Option (List Nat))->List Nat->Prop
 |nil:PrsW [] []
 |cons {n w v:List Nat}{o:Option (List Nat)}{ps:List (List Nat×Option (List Nat))}{r:List Nat}:WrT frQ n w->n≠[]->ValW o v->PrsW ps r->PrsW ((n,o)::ps) (38::(w++(v++r)))
def QueW (q:Option (List (List Nat×Option (List Nat))))(w:List Nat):Prop:=match q with
 |none=>w=[]
 |some []=>w=[63]
 |some ((n,o)::ps)=>∃a v r,w=63::(a++(v++r))∧WrT frQ n a∧n≠[]∧ValW o v∧PrsW ps r
def squ:(35:Nat)∉frQ∧(38:Nat)∉frQ∧(61:Nat)∉frQ:=by decide +kernel
theorem lqM {ps:List (List Nat×Option (List Nat))}{r rest:List Nat}(h:PrsW ps r)(hr:rest=[]∨∃x,rest=35::x):Stops frQ (r++rest)∧(r++rest).head?≠some 61:=by
 cases h with
 |nil=>
  rcases hr with rfl|⟨x,rfl⟩
  ·exact⟨lqc,by simp⟩
  ·exact⟨cqX ⟨by decide,squ.1,by decide⟩,by simp⟩
 |cons _ _ _ _=>exact⟨cqX ⟨by decide,squ.2.1,by decide⟩,by simp⟩
theorem oqz {o:Option (List Nat)}{v r:List Nat}(h:ValW o v)(hr:Stops frQ r):Stops frQ (v++r):=by
 cases o with
 |none=>
  have h:v=[]:=h
  subst h
  exact hr
 |some s=>
  obtain⟨x,rfl,_⟩:=h
  exact cqX ⟨by decide,squ.2.2,by decide⟩
theorem xqY {ps:List (List Nat×Option (List Nat))}{r:List Nat}(h:PrsW ps r):ps.length≤r.length:=by
 induction h with
 |nil=>exact Nat.le_refl _
 |cons _ _ _ _ ih=>simp only[length_cons,length_append];lia
def Cur.toT {H H':Hp}{C p:Addr}{t:List Nat}{i:Nat}(h:Cur H C p t i)(s:SameBut p H H'):SameT H H':=fun b xs e=>s b _ (by
 obtain⟨dx,hp⟩:=h
 exact zq7 e hp (by intro z;cases z)) e
def pD (a:List Nat×Option (List Nat)):PyData:=.tuple [st a.1,oD a.2]
def PrL (H:Hp)(vs:List V)(dn:List (List Nat×Option (List Nat))):Prop:=vs.length=dn.length∧∀(i:Nat) (a:List Nat×Option (List Nat)) (y:V),dn[i]?=some a->vs[i]?=some y->IsT H (pD a) y
def PrL.mono {H H':Hp}{vs:List V}{dn:List (List Nat×Option (List Nat))}(h:PrL H vs dn)(s:SameT H H'):PrL H' vs dn:=⟨h.1,fun i a y e1 e2=>(h.2 i a y e1 e2).mono s⟩
theorem PrL.snoc {H:Hp}{vs:List V}{dn:List (List Nat×Option (List Nat))}{a:List Nat×Option (List Nat)}{y:V}(h:PrL H vs dn)(hy:IsT H (pD a) y):PrL H (vs++[y]) (dn++[a]):=by
 refine⟨by simp[h.1],fun i b z e1 e2=>?_⟩
 by_cases hi:i < dn.length
 ·rw[List.getElem?_append_left hi] at e1
  rw[List.getElem?_append_left (by rw[h.1];exact hi)] at e2
  exact h.2 i b z e1 e2
 ·have:=(List.getElem?_eq_some_iff.mp e1).1
  rw[length_append,length_singleton] at this
  have e:i=dn.length:=by lia
  subst e
  rw[List.getElem?_append_right (Nat.le_refl _),Nat.sub_self] at e1
  rw[<- h.1,List.getElem?_append_right (Nat.le_refl _),Nat.sub_self] at e2
  cases e1
  cases e2
  exact hy
theorem mq5 {H:Hp}{α:Type}{g:α->PyData}:∀{l:List α}{ys:List V},ys.length=l.length->(∀(i:Nat) (a:α) (y:V),l[i]?=some a->ys[i]?=some y->IsT H (g a) y)->IsTAll H (l.map g) ys
 |[],[],_,_=>.nil
 |[],_::_,h,_=>by simp at h
 |_::_,[],h,_=>by simp at h
 |a::l,y::ys,h,k=>.cons (k 0 a y rfl rfl) (mq5 (by simpa using h) fun i b z e1 e2=>k (i+1) b z (by simpa using e1) (by simpa using e2))
def fgS:List Nat:=(Str.ofString "0123456789").cps.toList
def tqE {c:Nat}:c∈fgS↔48≤c∧c≤57:=by
 rw[show fgS=List.range' 48 10 by decide +kernel,List.mem_range'_1]
 lia
def valD (ds:List Nat):Nat:=ds.foldl (fun a c=>a * 10+(c - 48)) 0
def eqA (ds:List Nat)(c:Nat):valD (ds++[c])=valD ds * 10+(c - 48):=by unfold valD;rw[List.foldl_append];rfl
theorem nqK:∀(es ds:List Nat),valD ds≤valD (ds++es)
 |[],ds=>by rw[append_nil];exact Nat.le_refl _
 |c::es,ds=>by
  have h:=nqK es (ds++[c])
  rw[eqA,append_assoc] at h
  exact Nat.le_trans (by lia) h
def qqN {ds:List Nat}{c:Nat}{r:List Nat}(h:ds=c::r)(hc:49≤c):0 < valD ds:=by
 have:=nqK r [c]
 rw[h]
 have e:valD [c]=c - 48:=by unfold valD;simp
 show 0 < valD ([c]++r)
 lia
def DooW (o:Option Int)(w:List Nat):Prop:=match o with
 |none=>w=[]
 |some n=>∃ds,w=58::ds∧ds≠[]∧(∀c∈ds,48≤c∧c≤57)∧(valD ds:Int)=n∧valD ds≤65535∧(ds=[48]∨ds.head?≠some 48)
def uqs:∀c,c < 58->48≤c->PySem.intText? ⟨#[c]⟩=some (((c - 48:Nat)):Int):=by decide +kernel
def tq5 {s r:List Nat}(h:∀c∈s,c≠58):ahead (s++58::r)=s:=by
 unfold ahead
 rw[List.takeWhile_append_of_pos (fun c hc=>decide_eq_true (h c hc)),List.takeWhile_cons_of_neg (by simp),append_nil]
def oqB (t:List Nat):∃r,t=ahead t++r:=⟨t.dropWhile fun c=>decide (c≠58),(List.takeWhile_append_dropWhile (p:=fun c=>decide (c≠58))).symm⟩
def sqS (t:List Nat):(ahead t).length≤t.length:=by
 obtain⟨r,h⟩:=oqB t
 have:=congrArg List.length h
 rw[length_append] at this
 lia
theorem mqM (t:List Nat):t.take (ahead t++[58]).length=ahead t++[58]↔t[(ahead t).length]?=some 58:=by
 obtain⟨r,h⟩:=oqB t
 generalize ahead t=a at h
 subst h
 rw[length_append,length_singleton,List.getElem?_append_right (Nat.le_refl _),Nat.sub_self,List.take_append]
 rw[take_of_length_le (by lia),show a.length+1 - a.length=1 by lia]
 constructor
 ·intro e
  have e:=List.append_cancel_left e
  cases r with
  |nil=>simp at e
  |cons c r=>simp at e;rw[e];rfl
 ·intro e
  cases r with
  |nil=>simp at e
  |cons c r=>simp at e;rw[e];rfl
def schM (t:List Nat):List Nat:=if ahead t≠[]∧schD (.str ⟨(ahead t).toArray⟩)=true∧t[(ahead t).length]?=some 58 then ahead t else []
def schP (t:List Nat):Nat:=(schT (schM t)).length
def qqy {t:List Nat}(h1:ahead t≠[])(h2:schD (.str ⟨(ahead t).toArray⟩)=true)(h3:t[(ahead t).length]?=some 58):schM t=ahead t∧schP t=(ahead t++[58]).length:=by
 have e:schM t=ahead t:=by unfold schM;rw[if_pos ⟨h1,h2,h3⟩]
 exact⟨e,by unfold schP schT;rw[e,if_neg h1]⟩
def nqw {t:List Nat}(h:¬ (ahead t≠[]∧schD (.str ⟨(ahead t).toArray⟩)=true∧t[(ahead t).length]?=some 58)):schM t=[]∧schP t=0:=by
 have e:schM t=[]:=by unfold schM;rw[if_neg h]
 exact⟨e,by unfold schP schT;rw[e,if_pos rfl];rfl⟩
def RdW (x:Ad)(t:List Nat):Prop:=∃h d w q m,t=schT x.scheme++(h++(d++((if x.rooted then [47] else [])++(w++(q++m)))))∧schM t=x.scheme∧HouW x.house h∧DooW x.door d∧StpW x.steps x.ends w∧QueW x.quest q∧MarW x.mark m
end Wm
namespace L2
open PySem
theorem IsKAll.length {K:W.Frag}{H:Hp}:∀{ds:List PyData}{xs:List V},IsKAll K H ds xs->xs.length=ds.length
 |_,_,.nil=>rfl
 |_,_,.cons _ r=>by simp[IsKAll.length r]
theorem mq9 {K:W.Frag}{H:Hp}:∀{ds:List PyData}{xs:List V}{i:Nat}{d:PyData}{x:V},IsKAll K H ds xs->ds[i]?=some d->xs[i]?=some x->IsK K H d x
 |_,_,0,_,_,.cons h _,e1,e2=>by cases e1;cases e2;exact h
 |_,_,i+1,_,_,.cons _ r,e1,e2=>mq9 r (i:=i) (by simpa using e1) (by simpa using e2)
 |_,_,0,_,_,.nil,e1,_=>by cases e1
 |_,_,_+1,_,_,.nil,e1,_=>by cases e1
end L2
namespace Wm
open PySem L2
theorem jqJ:∀n:Nat,valD ((Nat.toDigits 10 n).map Char.toNat)=n∧(Nat.toDigits 10 n).map Char.toNat≠[]∧(((Nat.toDigits 10 n).map Char.toNat).head?=some 48->n=0)
 |n=>by
  by_cases h:n < 10
  ·rw[Nat.toDigits_of_lt_base h]
   have key:∀n,n < 10->valD ([Nat.digitChar n].map Char.toNat)=n∧([Nat.digitChar n].map Char.toNat).head?=some (48+n):=by decide +kernel
   obtain⟨k1,k2⟩:=key n h
   refine⟨k1,by simp,fun z=>?_⟩
   rw[k2] at z
   injection z with z
   lia
  ·have h':10≤n:=by lia
   rw[Nat.toDigits_of_base_le (by decide) h',map_append]
   obtain⟨i1,i2,i3⟩:=jqJ (n / 10)
   have key:∀n,n < 10->([Nat.digitChar n].map Char.toNat)=[48+n]:=by decide +kernel
   rw[key (n % 10) (by lia),eqA,i1]
   refine⟨by lia,by simp,fun z=>?_⟩
   cases hh:(Nat.toDigits 10 (n / 10)).map Char.toNat with
   |nil=>exact absurd hh i2
   |cons c r=>
    rw[hh] at z i3
    have:=i3 z
    lia
theorem uqJ {o:Option Int}(h:∀i,o=some i->0≤i∧i≤65535):DooW o (dooT o):=by
 cases o with
 |none=>rfl
 |some i=>
  obtain⟨h1,h2⟩:=h i rfl
  obtain⟨n,rfl⟩:=Int.eq_ofNat_of_zero_le h1
  have e:dg (n:Int)=(Nat.toDigits 10 n).map Char.toNat:=by unfold dg;rw[PySem.W.KIN.signs_num]
  obtain⟨i1,i2,i3⟩:=jqJ n
  refine⟨dg n,rfl,by rw[e];exact i2,qqo h1,by rw[e,i1],by rw[e,i1];lia,?_⟩
  by_cases hz:(dg n).head?=some 48
  ·rw[e] at hz
   have:=i3 hz
   subst this
   exact .inl (by rw[e];decide)
  ·exact .inr hz
theorem uqO {o:Option (List Nat)}(h:∀l,o=some l->(0 < l.length∧l.length≤60)∧∀c∈l,isSg c=true):HouW o (houT o):=by
 cases o with
 |none=>rfl
 |some l=>
  obtain⟨⟨h1,h2⟩,h3⟩:=h l rfl
  exact⟨wr l,rfl,lqt h3,(fun e=>by rw[e] at h1;cases h1),h2⟩
theorem vqe {o:Option (List Nat)}(h:∀l,o=some l->∀c∈l,isSg c=true):MarW o (oT 35 o):=by
 cases o with
 |none=>rfl
 |some l=>exact⟨wr l,rfl,lqt (h l rfl)⟩
theorem rqb {o:Option (List Nat)}(h:∀l,o=some l->∀c∈l,isSg c=true):ValW o (oT 61 o):=by
 cases o with
 |none=>rfl
 |some l=>exact⟨wr l,rfl,lqt (h l rfl)⟩
theorem wqp {e:Bool}:∀{ss:List (List Nat)},(∀s∈ss,StepOk s)->TlW ss e (tlT 47 (ss.map wr)++if e then [47] else [])
 |[],_=>by cases e <;> simp[tlT] <;> constructor
 |s::ss,h=>by
  have h1:=h s (mem_cons_self ..)
  have:=TlW.more (lqt (fr:=frS) h1.2) (fun z=>by rw[z] at h1;cases h1.1) (wqp (e:=e) (ss:=ss) fun t ht=>h t (mem_cons_of_mem _ ht))
  simpa [tlT] using this
theorem vq7 {ss:List (List Nat)}{e:Bool}(h:∀s∈ss,StepOk s):StpW ss e (stpT ss e):=by
 cases ss with
 |nil=>rw[uq7];exact .none
 |cons s ss=>
  have h1:=h s (mem_cons_self ..)
  have:=StpW.some (lqt (fr:=frS) h1.2) (fun z=>by rw[z] at h1;cases h1.1) (wqp (e:=e) (ss:=ss) fun t ht=>h t (mem_cons_of_mem _ ht))
  unfold stpT
  simpa [joinT] using this
theorem qqR:∀{ps:List (List Nat×Option (List Nat))},(∀p∈ps,PairOk p)->PrsW ps (tlT 38 (ps.map pairT))
 |[],_=>.nil
 | (n,o)::ps,h=>by
  have h1:=h (n,o) (mem_cons_self ..)
  have:=PrsW.cons (lqt (fr:=frQ) h1.1.2) (fun z=>by have:=h1.1.1;rw[z] at this;cases this) (rqb h1.2) (qqR (ps:=ps) fun t ht=>h t (mem_cons_of_mem _ ht))
  simpa [tlT,pairT] using this
theorem vqW {q:Option (List (List Nat×Option (List Nat)))}(h:∀ps,q=some ps->∀p∈ps,PairOk p):QueW q (queT q):=by
 cases q with
 |none=>rfl
 |some ps=>
  cases ps with
  |nil=>rfl
  |cons p ps=>
   obtain⟨n,o⟩:=p
   have h1:=h _ rfl (n,o) (mem_cons_self ..)
   exact⟨wr n,oT 61 o,tlT 38 (ps.map pairT),by simp[queT,joinT,pairT],lqt h1.1.2,(fun z=>by have:=h1.1.1;rw[z] at this;cases this),rqb h1.2,qqR fun t ht=>h _ rfl t (mem_cons_of_mem _ ht)⟩
theorem qqB {P:Nat->Prop}(h1:P 63)(h2:P 38)(h3:P 61)(hw:∀c,wch c=true->P c){q:Option (List (List Nat×Option (List Nat)))}(h:∀ps,q=some ps->∀p∈ps,PairOk p):∀c∈queT q,P c:=by
 intro c hc
 cases q with
 |none=>cases hc
 |some ps=>
  simp only[queT,mem_cons] at hc
  rcases hc with rfl|hc
  ·exact h1
  ·refine qq9 h2 (fun s hs d hd=>?_) c hc
   obtain⟨p,hp,rfl⟩:=mem_map.mp hs
   exact uqE h3 hw (h ps rfl p hp) d hd
def Ad.Wf.all {P:Nat->Prop}{x:Ad}(h:x.Wf)(h1:P 47)(h2:P 58)(h3:P 63)(h4:P 38)(h5:P 61)(h6:P 35)(hw:∀c,wch c=true->P c):∀c∈x.shw,P c:=by
 intro c hc
 rw[Ad.shw_eq] at hc
 rcases mem_append.mp hc with hc|hc
 ·rcases mem_append.mp hc with hc|hc
  ·exact h.pre_all h1 h2 hw c hc
  ·exact qqB h3 h4 h5 hw h.que c hc
 ·exact sqZ h6 hw h.mar c hc
def zqT {c:Nat}(h:wch c=true):c < 128:=by
 simp only[wch,isPl,Bool.or_eq_true,decide_eq_true_eq] at h
 lia
def yqQ {x:Ad}(h:x.Wf):∀c∈x.shw,c < 128:=h.all (by decide) (by decide) (by decide) (by decide) (by decide) (by decide) fun _=>zqT
theorem uq6 {x:Ad}(h:x.Wf):schM x.shw=x.scheme:=by
 by_cases hs:x.scheme=[]
 ·rw[hs]
  refine (nqw ?_).1
  rintro⟨_,z2,z3⟩
  cases hh:x.house with
  |some l=>
   obtain⟨r,hr⟩:∃r,x.shw=47::r:=by
    unfold Ad.shw
    rw[hs,hh]
    exact⟨_,rfl⟩
   rw[hr] at z2
   have:(ahead (47::r))=47::ahead r:=by unfold ahead;rw[List.takeWhile_cons_of_pos (by decide)]
   rw[this] at z2
   simp[schD,isLet] at z2
  |none=>
   have hd:x.door=none:=by
    cases hd:x.door with
    |none=>rfl
    |some i=>exact absurd hh (h.doo i hd).2
   have hm:(58:Nat)∈x.shw:=mem_of_getElem? z3
   unfold Ad.shw at hm
   rw[hs,hh,hd] at hm
   simp only[schT,if_true,houT,dooT,nil_append] at hm
   have ha:∀c,c∈x.wayT++(queT x.quest++oT 35 x.mark)->c≠58:=by
    intro c hc
    rcases mem_append.mp hc with hc|hc
    ·exact tqy (P:=fun c=>c≠58) (by decide) (fun c hc=>(nqf hc).2.2.2.1) h.stp c hc
    ·rcases mem_append.mp hc with hc|hc
     ·exact qqB (P:=fun c=>c≠58) (by decide) (by decide) (by decide) (fun c hc=>(nqf hc).2.2.2.1) h.que c hc
     ·exact sqZ (P:=fun c=>c≠58) (by decide) (fun c hc=>(nqf hc).2.2.2.1) h.mar c hc
   exact ha 58 hm rfl
 ·have hc:∀c∈x.scheme,c≠58:=fun c hc=>(nqf (sqA (h.sch.2.1 c hc))).2.2.2.1
  obtain⟨r,hr⟩:∃r,x.shw=x.scheme++58::r:=by
   unfold Ad.shw schT
   rw[if_neg hs]
   exact⟨_,by rw[append_assoc];rfl⟩
  have ha:ahead x.shw=x.scheme:=by rw[hr];exact tq5 hc
  have:=(qqy (t:=x.shw) (by rw[ha];exact hs) (by
   rw[ha]
   simp only[schD,Bool.and_eq_true,all_eq_true,decide_eq_true_eq]
   exact⟨⟨⟨fun c hc=>wqe (h.sch.2.1 c hc),by show x.scheme.length≤8;exact h.sch.1⟩,h.sch.2.2⟩,h.sch.2.1⟩) (by
   rw[ha,hr,List.getElem?_append_right (Nat.le_refl _),Nat.sub_self];rfl)).1
  rw[this,ha]
def yqY {x:Ad}(h:x.Wf):RdW x x.shw:=
 ⟨houT x.house,dooT x.door,stpT x.steps x.ends,queT x.quest,oT 35 x.mark,by
  unfold Ad.shw Ad.wayT
  rw[uqa,append_assoc],uq6 h,uqO h.hou,uqJ fun i e=>(h.doo i e).1,vq7 h.stp,vqW h.que,vqe h.mar⟩
def GoodsT (n:Nat)(H:Hp)(vs:List V):Prop:=∀v∈vs,∃x:Ad,(x.Wf∧x.Tiny∧x.steps.length≤n)∧IsT H x.data v
def GoodsT.cons {n:Nat}{H:Hp}{v:V}{vs:List V}{x:Ad}(h1:x.Wf∧x.Tiny∧x.steps.length≤n)(h3:IsT H x.data v)(h:GoodsT n H vs):GoodsT n H (v::vs):=fun u hu=>by
 rcases mem_cons.mp hu with rfl|hu
 ·exact⟨x,h1,h3⟩
 ·exact h u hu
def Ad.Tiny.local {x:Ad}(h:x.Tiny):({x with scheme:=[],house:=none,door:=none}:Ad).Tiny:=⟨h.stp,h.que,h.mar,fun l e=>by cases e⟩
end Wm
namespace L2
open PySem
end L2
namespace Wm
open PySem L2
def PrW (p:List Nat×Option (List Nat))(w:List Nat):Prop:=∃a v,w=a++v∧WrT frQ p.1 a∧ValW p.2 v
inductive PrWs:List (List Nat×Option (List Nat))->List (List Nat)->Prop
 |nil:PrWs [] []
 |cons {p:List Nat×Option (List Nat)}{w:List Nat}{ps:List (List Nat×Option (List Nat))}{ws:List (List Nat)}:PrW p w->PrWs ps ws->PrWs (p::ps) (w::ws)
inductive StWs:List (List Nat)->List (List Nat)->Prop
 |nil:StWs [] []
 |cons {s w:List Nat}{ss ws:List (List Nat)}:WrT frS s w->StWs ss ws->StWs (s::ss) (w::ws)
end Wm
namespace L2
open PySem PySem.Spec PyProof.Rows
section
variable {X:Cx}{pins:List (Addr×Obj)}{σ:St}{H:Hp}{s:Shared}{h':Heap}
theorem Inv.walked {t':Nat}{wr:List Addr}{T:Addr}{o:HO}(I:Inv X pins σ H s)(hf:∀b∈wr,FpOk X pins H b)(k:∀b u,b∉wr->s.heap.get? b=some u->h'.get? b=some u)(hT:s.heap.objs.size≤T)
  (new:ObjOk X.prog X.w (upd H T o) h' T o):Inv X pins σ (upd H T o) {s with heap:=h',toks:=t' }:=by
 have hn:H T=none:=I.hok.fresh hT
 have nw:∀b u,H b=some u->b∉wr:=fun b u e z=>by rw[(hf b z).1] at e;cases e
 refine I.step (g':=s.gens) (d':=s.drawn) (ch:=wr) (fun b hb=>?_) (fun b u _ _ hc e _=>k b u hc e) (fun b u _ _ hc e _=>⟨u.slots,k b u hc e⟩) (fun b u _ q n=>?_)
  (fun b u hc e=>⟨u,k b u hc e⟩) (fun b xs q=>?_) (fun b u xs q=>?_) (fun b ps q=>?_) (fun m hm=>?_) (fun b u e=>?_) I.bare
 ·obtain⟨f0,f1,f2,f3,f4,f5⟩:=hf b hb
  exact⟨f3,f1,f4,f5⟩
 ·rw[aqp (Nat.ne_of_lt (Nat.lt_of_lt_of_le (Heap.lt_size q) hT))];exact n
 ·rw[aqp (aqn q hn)];exact q
 ·rw[aqp (aqn q hn)];exact q
 ·exact⟨#[],by rw[aqp (aqn q hn),q];simp⟩
 ·obtain⟨u,es,ep,ho,r⟩:=hm
  refine⟨u,es,ep,k _ u (fun z=>?_) ho,r⟩
  exact (hf _ z).2.1 rfl
 ·by_cases hb:b=T
  ·subst hb;rw[aqm] at e;cases e;exact new
  ·rw[aqp hb] at e
   refine (I.hok b u e).stay (fun c v hc q=>k c v ?_ q) (fun c q=>by rw[aqp (aqn q hn)];exact q) fun c xs q=>by rw[aqp (aqn q hn)];exact q
   rcases hc with z|z
   ·rw[z];exact nw b u e
   ·exact nw c _ z
theorem Inv.turnedL {t':Nat}{wr:List Addr}(I:Inv X pins σ H s)(hf:∀b∈wr,FpOk X pins H b)(k:∀b u,b∉wr->s.heap.get? b=some u->h'.get? b=some u):Inv X pins σ H {s with heap:=h',toks:=t' }:=by
 have nw:∀b u,H b=some u->b∉wr:=fun b u e z=>by rw[(hf b z).1] at e;cases e
 refine I.step (g':=s.gens) (d':=s.drawn) (ch:=wr) (fun b hb=>?_) (fun b u _ _ hc e _=>k b u hc e) (fun b u _ _ hc e _=>⟨u.slots,k b u hc e⟩) (fun _ _ _ _ n=>n)
  (fun b u hc e=>⟨u,k b u hc e⟩) (fun _ _ e=>e) (fun _ _ _ e=>e) (fun b ps e=>⟨#[],by rw[e];simp⟩) (fun m hm=>?_) (fun b u e=>?_) I.bare
 ·obtain⟨f0,f1,f2,f3,f4,f5⟩:=hf b hb
  exact⟨f3,f1,f4,f5⟩
 ·obtain⟨u,es,ep,ho,r⟩:=hm
  refine⟨u,es,ep,k _ u (fun z=>?_) ho,r⟩
  exact (hf _ z).2.1 rfl
 ·refine (I.hok b u e).stay (fun c v hc q=>k c v ?_ q) (fun _ q=>q) fun _ _ q=>q
  rcases hc with z|z
  ·rw[z];exact nw b u e
  ·exact nw c _ z
end
def ItW (n:Nat)(ok:Hp->Prop)(pt:Nat->Hp->List V->Prop):It:=
 ⟨fun i H=>i < n∧ok H,fun i H x H'=>∃T xs,x=.ref T∧H T=none∧H'=upd H T (.tup xs)∧pt i H xs,fun i H=>i=n∧ok H⟩
theorem uqv {P:Program}{w:World}{K:W.Frag}{elts:List Expr}{k:Nat}{pos:Pos}{I:Addr}{fp wr fq:List Addr}{n:Nat}{α:Type}{Pt:α->Nat->Array Value->Prop}{Sn:α->Nat->Heap->Prop}{Mid:α->Nat->Addr->Heap->Prop}{tn:Nat->Heap->Prop}{ok:Hp->Prop}{pt:Nat->Hp->List V->Prop}
  (hI:I∈fq) (hq:∀b∈wr,b∈fq) (hW:∀(A:Around) (a:α),A.handled=none->WalksT P w A I fp wr n (Pt a) (Sn a) (Mid a))
  (hself:∀(A:Around) (i:Nat) (s:Shared) (Q:Value->Shared->Prop) (E:Value->Shared->Prop),tn i s.heap->Q (.ref I) s->wpAny (model P w) A (pyIter (.ref I)) Q E s)
  (hobj:∀i h,tn i h->∀b∈fq,∃o,h.get? b=some o∧∀v,o.data≠.cell v)
  (hkeep:∀i h h',tn i h->(∀b∈fq,∀o,h.get? b=some o->h'.get? b=some o)->tn i h')
  (hin:∀(X:Cx),X.prog=P->X.w=w->X.K=K->∀(i:Nat) (pins:List (Addr×Obj)) (s:Shared) (σ:St) (H:Hp),Inv X pins σ H s->(∀b∈fq,FpOk X pins H b)->tn i s.heap->ok H->∃a,Sn a i s.heap∧∀vals,Pt a i vals->∃xs,xs.length≤sizeLine∧Vals xs vals.toList∧pt i H xs)
  (hout:∀a i h,Sn a i h->tn i h) :
  Turn P w K (.Tuple elts k pos) (ItW n ok pt) fq I tn where
 mem:=hI
 obj:=hobj
 keep:=hkeep
 item:=by
  intro X hP hw hK hc i pins s σ H E J hf st hg
  obtain⟨hi,ae⟩:=hg
  have af:∀b∈wr,FpOk X pins H b:=fun b hb=>hf b (hq b hb)
  obtain⟨a,ad,hv⟩:=hin X hP hw hK i pins s σ H J hf st ae
  obtain⟨ay,ax,am,al,aj,ai,aw⟩:=hW X.A a (J.ok.hd hc)
  refine am i s _ E hi ad fun T vals h1 tk be hT ag ac hk=>?_
  refine⟨.ref T,rfl,?_⟩
  refine al elts k pos i T _ _ E ac fun h2 ao ah=>?_
  obtain⟨xs,ap,aq,ar⟩:=hv vals be
  have az:T∉wr:=aj i T h1 ac
  have bc:H T=none:=J.hok.fresh hT
  have au:∀b u,b∉wr->s.heap.get? b=some u->h2.get? b=some u:=fun b u hb e=>ah b u hb (hk b u hb e)
  obtain⟨o,ho,av,m,hd⟩:=ag
  have bd:IsTup h2 T vals.toList.toArray:=by
   refine⟨o,ah T o az ho,av,m,?_⟩
   rw[hd]
  refine⟨.ref T,upd H T (.tup xs),J.walked (t':=tk) af au hT ⟨ap,vals.toList,aq,bd⟩,rfl,⟨T,xs,rfl,bc,rfl,ar⟩,hout a _ _ ao,fun b hb=>?_⟩
  have:b≠T:=fun z=>by
   obtain⟨o,e,_⟩:=hobj i _ st b hb
   exact absurd (Heap.lt_size e) (by rw[z];exact Nat.not_lt.mpr hT)
  rw[aqp this]
  exact (hf b hb).1
 done:=by
  intro X hP hw hK hc i pins s σ H E J hf st hg
  obtain⟨hi,ae⟩:=hg
  subst hi
  have af:∀b∈wr,FpOk X pins H b:=fun b hb=>hf b (hq b hb)
  obtain⟨a,ad,_⟩:=hin X hP hw hK i pins s σ H J hf st ae
  obtain⟨ay,ax,am,al,aj,ai,aw⟩:=hW X.A a (J.ok.hd hc)
  exact ai s _ E ad fun h1 tk hk=>⟨rfl,J.turnedL af hk⟩
 self:=hself
section
variable {σ:St}{H:Hp}{D:Ends}{g:TG}{tb:TS}
theorem sqw {n:Nat}{ok:Hp->Prop}{pt:Nat->Hp->List V->Prop}(Pv:Nat->St->Hp->Prop)(h0:Pv 0 σ H)(hl:∀i σ H,i≤n->Pv i σ H->ok H)
  (hs:∀i σ H T xs,i < n->Pv i σ H->H T=none->pt i H xs->g (.ref T) σ (upd H T (.tup xs)) fun σ2 H2=>tb {D with nx:=Pv (i+1),ct:=Pv (i+1),bk:=D.nx} σ2 H2) (hd:∀σ H,Pv n σ H->D.nx σ H):LoopI (ItW n ok pt) g tb D σ H:=by
 refine⟨fun i m σ H=>m=n - i∧i≤n∧Pv i σ H,⟨n,by simp,Nat.zero_le _,h0⟩,?_⟩
 rintro i m σ H ⟨rfl,hi,p⟩
 have hq:=hl i σ H hi p
 by_cases ac:i < n
 ·refine .inr ⟨⟨ac,hq⟩,Pv (i+1),fun σ' H' p'=>⟨n - (i+1),by lia,rfl,ac,p'⟩,fun x H' y=>?_⟩
  obtain⟨T,xs,rfl,hT,rfl,hp⟩:=y
  exact hs i σ _ T xs ac p hT hp
 ·have e:i=n:=by lia
  subst e
  exact .inl ⟨⟨rfl,hq⟩,hd σ H p⟩
end
section
variable {prog:Program}{w:World}{A:Around}{E:Value->Shared->Prop}{s:Shared}
end
abbrev enuO (it:Addr):Obj:={ cls:=.type "enumerate",data:=.fields #[.none,.bool false,.ref it,rawInt 0,.none,.none]}
section
variable {prog:Program}{w:World}{A:Around}{E:Value->Shared->Prop}{s:Shared}
end
def ItE (K:W.Frag)(a:Addr)(xs:List V):It:=ItW xs.length (fun H=>SqT K H a xs) fun i _ ys=>∃v,xs[i]?=some v∧ys=[.int (i:Int),v]
section
variable {X:Cx}{K:W.Frag}{elts:List Expr}{kk:Nat}{tpos:Pos}
def iEnum (K:W.Frag)(ta:TA):TI:=fun σ H R=>ta σ H fun vs H1=>∃a xs,vs=[.ref a]∧SqT K H1 a xs∧R (ItE K a xs) H1
variable {σ:St}{H:Hp}{D:Ends}{g:TG}{tb:TS}{aa:TA}
def yqE:(tFor (iEnum K aa) g tb D σ H)=(aa σ H fun vs H1=>∃a xs,vs=[.ref a]∧SqT K H1 a xs∧LoopI (ItE K a xs) g tb D σ H1):=rfl
end
structure Zap (z TI TO i1 i2 l1 l2:Addr):Prop where
 a1:TI≠z∧TO≠z∧i1≠z∧i2≠z∧l1≠z∧l2≠z
 a2:TI≠TO∧TI≠i1∧TI≠i2∧TO≠i1∧TO≠i2∧i1≠i2
 a3:l1≠TO∧l2≠TO∧l1≠i2∧l2≠i1
section
variable {prog:Program}{w:World}{A:Around}{E:Value->Shared->Prop}{s:Shared}
variable {z TI TO i1 i2 l1 l2:Addr}{n1 n2 k:Nat}{P1 P2:Nat->Value->Prop}{S1 S2:Nat->Heap->Prop}
end
section
variable {prog:Program}{w:World}{A:Around}{E:Value->Shared->Prop}{s:Shared}
end
def ItZ (K:W.Frag)(a b:Addr)(xs ys:List V):It:=ItW (min xs.length ys.length) (fun H=>SqT K H a xs∧SqT K H b ys) fun i _ vs=>∃x y,xs[i]?=some x∧ys[i]?=some y∧vs=[x,y]
section
variable {X:Cx}{K:W.Frag}{elts:List Expr}{kk:Nat}{tpos:Pos}
def iZip (K:W.Frag)(ta:TA):TI:=fun σ H R=>ta σ H fun vs H1=>∃a b xs ys,vs=[.ref a,.ref b]∧SqT K H1 a xs∧SqT K H1 b ys∧R (ItZ K a b xs ys) H1
variable {σ:St}{H:Hp}{D:Ends}{g:TG}{tb:TS}{aa:TA}
def xq9:(tFor (iZip K aa) g tb D σ H)=(aa σ H fun vs H1=>∃a b xs ys,vs=[.ref a,.ref b]∧SqT K H1 a xs∧SqT K H1 b ys∧LoopI (ItZ K a b xs ys) g tb D σ H1):=rfl
variable {p:Addr}{fv:St}{tt:TT}{te:TE}{Q:VK}{H1:Hp}{fr:List Nat}
def tqw:(tComp2 K (iZip K aa) fr tt te σ H Q)=(aa σ H fun vs H1=>∃a b xs ys,vs=[.ref a,.ref b]∧SqT K H1 a xs∧SqT K H1 b ys∧∀p,H1 p=none->CompI2 K (ItZ K a b xs ys) p (frV σ fr) tt te Q H1):=rfl
end
section
variable {p:Addr}{fv:St}{tt:TT}{te:TE}{Q:VK}{H1 H:Hp}{fr:List Nat}{aa:TA}{σ:St}
def tq4:(tComp (iRng1 aa) fr tt te σ H Q)=(aa σ H fun vs H1=>∃j:Int,vs=[.int j]∧-(2 ^ 62)≤j∧j < 2 ^ 62∧∀p,H1 p=none->CompI (Itr 0 j.toNat) p (frV σ fr) tt te Q H1):=rfl
theorem pqK {n:Nat}(J:Nat->List V->Hp->Prop)(hlen:n≤sizeLine)(h0:J 0 [] (upd H1 p (.lst [])))
  (he:∀(i:Nat) (ys:List V) (H2:Hp) (T:VK),i < n->J i ys H2->H2 p=some (.lst ys)->(∀y H3,H3 p=some (.lst ys)->J (i+1) (ys++[y]) (upd H3 p (.lst (ys++[y])))->T y H3)->te (some (.int (0+(i:Int)))::fv) H2 T)
  (hQ:∀ys H2,J n ys H2->H2 p=some (.lst ys)->Q (.ref p) H2):CompI (Itr 0 n) p fv tYes te Q H1:=by
 refine⟨fun i m ys H2=>m=n - i∧i≤n∧ys.length=i∧H2 p=some (.lst ys)∧J i ys H2,⟨n,by simp,Nat.zero_le _,rfl,aqm,h0⟩,?_⟩
 rintro i m ys H2 ⟨rfl,hi,ae,ac,hJ⟩
 refine⟨ac,?_⟩
 by_cases ad:i < n
 ·refine .inr ⟨ad,by lia,fun x H3 y=>?_⟩
  obtain⟨rfl,rfl⟩:=y
  unfold tYes
  dsimp only
  rw[if_pos rfl]
  exact he i ys _ _ ad hJ ac fun y H5 af ag=>⟨af,n - (i+1),by lia,rfl,ad,by rw[length_append,ae];rfl,aqm,ag⟩
 ·have e:i=n:=by lia
  subst e
  exact .inl ⟨Nat.le_refl _,hQ ys H2 hJ ac⟩
end
abbrev litO (t:Addr):Obj:={ cls:=.type "list_iterator",data:=.fields #[.ref t,.int 0 0]}
section
variable {prog:Program}{w:World}{A:Around}{E:Value->Shared->Prop}{s:Shared}
end
def ItZL (K:W.Frag)(a b:Addr)(xs ys:List V):It:=ItW (min xs.length ys.length) (fun H=>SqL K H a xs∧SqL K H b ys) fun i _ vs=>∃x y,xs[i]?=some x∧ys[i]?=some y∧vs=[x,y]
section
variable {X:Cx}{K:W.Frag}{elts:List Expr}{kk:Nat}{tpos:Pos}
def iZipL (K:W.Frag)(ta:TA):TI:=fun σ H R=>ta σ H fun vs H1=>∃a b xs ys,vs=[.ref a,.ref b]∧SqL K H1 a xs∧SqL K H1 b ys∧R (ItZL K a b xs ys) H1
variable {σ:St}{H:Hp}{D:Ends}{g:TG}{tb:TS}{aa:TA}
def vq2:(tFor (iZipL K aa) g tb D σ H)=(aa σ H fun vs H1=>∃a b xs ys,vs=[.ref a,.ref b]∧SqL K H1 a xs∧SqL K H1 b ys∧LoopI (ItZL K a b xs ys) g tb D σ H1):=rfl
variable {p:Addr}{fv:St}{tt:TT}{te:TE}{Q:VK}{H1:Hp}{fr:List Nat}
def rqU:(tComp2 K (iZipL K aa) fr tt te σ H Q)=(aa σ H fun vs H1=>∃a b xs ys,vs=[.ref a,.ref b]∧SqL K H1 a xs∧SqL K H1 b ys∧∀p,H1 p=none->CompI2 K (ItZL K a b xs ys) p (frV σ fr) tt te Q H1):=rfl
end
section
variable {K:W.Frag}{p:Addr}{fv:St}{te:TE}{Q:VK}{H1:Hp}
end
theorem uqi (t:Addr)(its:Array Value):Meets (Builtin.«enumerate.__new__» ⟨[.type "enumerate",.ref t],[]⟩) (fun _ R s=>s.heap.IsList t its ∧
  R (.ok (.ret (.ref (s.heap.push (litO t)).objs.size))) {s with heap:=(s.heap.push (litO t)).push (enuO s.heap.objs.size)}):=
 .of_wp fun prog w A R s h=>by
  obtain⟨hp,g,d,tk,os⟩:=s;obtain⟨hl,h⟩:=h
  have hsub:=sub_enumerate
  wp_walk using wpAny_pyIter_list hl
  refine wpAny_stack_any fun _=>wpAny_pure ?_
  split
  ·rename_i z _ _ _ _ _
   cases (z == Value.type "enumerate") <;> (wp_walk using wpAny_pyIter_list hl) <;> exact⟨_,rfl,h⟩
  ·wp_walk using wpAny_pyIter_list hl
   exact⟨_,rfl,h⟩
section
variable {prog:Program}{w:World}{A:Around}{E:Value->Shared->Prop}{s:Shared}
theorem rqM {t:Addr}{its:Array Value}{Q:Value->Shared->Prop}(ht:s.heap.IsList t its)
  (h:∀h',IsEnum h' (s.heap.objs.size+1) s.heap.objs.size 0 .none->h'.IsListIter s.heap.objs.size t 0->(∀b o,s.heap.get? b=some o->h'.get? b=some o)->Q (.ref (s.heap.objs.size+1)) {s with heap:=h' }) :
  wpAny (model prog w) A (call (.type "enumerate") [.ref t]) Q E s:=by
 refine callType_new F.called_enumerate (by decide) (F.typeCall_enumerate_1 _) (F.newCall_enumerate_1 _) (fun ac=>F.args_object_init_2 ac _) F.entry_enumerate_new (uqi t its) ⟨ht,?_⟩
 have hz:(s.heap.push (litO t)).objs.size=s.heap.objs.size+1:=Heap.size_push ..
 show _∧_
 rw[hz]
 have he:IsEnum ((s.heap.push (litO t)).push (enuO s.heap.objs.size)) (s.heap.objs.size+1) s.heap.objs.size 0 .none:=by
  have:=Heap.get?_push_size (s.heap.push (litO t)) (o:=enuO s.heap.objs.size) rfl
  rw[hz] at this
  exact this
 exact⟨⟨_,he,rfl⟩,h _ he ⟨_,Heap.get?_push_of_some _ (Heap.get?_push_size _ rfl),rfl,rfl⟩ fun b o x=>Heap.get?_push_of_some _ (Heap.get?_push_of_some _ x)⟩
end
def ItEL (K:W.Frag)(a:Addr)(xs:List V):It:=ItW xs.length (fun H=>SqL K H a xs) fun i _ ys=>∃v,xs[i]?=some v∧ys=[.int (i:Int),v]
theorem sqt {P:Program}{w:World}{K:W.Frag}{elts:List Expr}{k:Nat}{pos:Pos}(a it e:Addr)(xs:List V)(h1:a≠it)(h2:e≠it)(h3:e≠a) :
  Turn P w K (.Tuple elts k pos) (ItEL K a xs) [e,it] e (fun i h=>(∃old,IsEnum h e it i old)∧h.IsListIter it a i):=by
 refine uqv (fp:=e::[it,a]) (α:={ ad:Array Value // ad.size=xs.length}) (Pt:=fun z i ac=>∃t x,z.1[i]?=some x∧ac=#[.int i t,x])
  (Sn:=fun z i h=>(∃old,IsEnum h e it i old)∧(h.IsListIter it a i∧h.IsList a z.1)) (Mid:=fun z i T h=>(∃x,IsEnumOut h e it ((i:Int)+1) x T)∧(h.IsListIter it a (i+1)∧h.IsList a z.1)∧T≠e∧T≠it)
  (by simp) (fun _ z=>z) (fun A z hh=>?_) (fun A i s Q E st q=>?_) (fun i h st b hb=>?_) (fun i h h' st kp=>?_) ?_ (fun z i h st=>⟨st.1,st.2.1⟩)
 ·have:=WalksT.enumerateD (Draws.list (prog:=P) (w:=w) (A:=A.in1) hh it a h1 z.1) e h2 (by simp[h2,h3]) (by simp)
  rw[z.2] at this
  exact this
 ·obtain⟨⟨old,he⟩,_⟩:=st
  exact wpAny_pyIter_enum he q
 ·obtain⟨⟨old,he⟩,o,ho,hc,hd⟩:=st
  rcases mem_cons.mp hb with rfl|hb
  ·exact⟨_,he,fun v z=>by cases z⟩
  ·rw[mem_singleton.mp hb]
   exact⟨o,ho,fun v z=>by rw[hd] at z;cases z⟩
 ·obtain⟨⟨old,he⟩,o,ho,r⟩:=st
  exact⟨⟨old,kp e (by simp) _ he⟩,o,kp it (by simp) o ho,r⟩
 ·intro X hP hw hK i af s σ H J hf st ag
  subst hP hw hK
  obtain⟨ad,rv,p,hz⟩:=J.list ag
  refine⟨⟨ad.toArray,by have:=rv.length;simp;lia⟩,⟨st.1,st.2,p.isList⟩,?_⟩
  rintro ac ⟨t,x,hx,rfl⟩
  have ae:ad[i]?=some x:=by simpa using hx
  have hi:i < xs.length:=by have:=rv.length;have:=(List.getElem?_eq_some_iff.mp ae).1;lia
  obtain⟨u,hu,ru⟩:=rv.get (List.getElem?_eq_getElem hi)
  rw[ae] at hu
  cases hu
  exact⟨[.int (i:Int),xs[i]],(show 2≤sizeLine by decide),.cons ⟨t,rfl⟩ (.cons ru .nil),xs[i],List.getElem?_eq_getElem hi,rfl⟩
section
variable {X:Cx}{K:W.Frag}{elts:List Expr}{kk:Nat}{tpos:Pos}
def iEnumL (K:W.Frag)(ta:TA):TI:=fun σ H R=>ta σ H fun vs H1=>∃a xs,vs=[.ref a]∧SqL K H1 a xs∧R (ItEL K a xs) H1
theorem qqx {a:Expr}{ta:TA}{p pos:Pos}(h:X.K=K)(hg:Gl X "enumerate")(hm:X.mg "enumerate"=none)(ha:PA X [a] ta)(hs:starEach [a] X.env=[(false,eval a X.env)]:=by rfl):PI X (.Tuple elts kk tpos) (.Call (.Name "enumerate" p) [a] [] pos) (iEnumL K ta):=by
 subst h
 intro ac s σ H R I q
 refine Call_ (oqg I hg hm boot_enumerate (PyProof.Rows.callWith_type1 (thn (ha pos ac s σ H _ I q) fun us s1 W'=>?_) hs rfl))
 obtain⟨vs,H1,I1,r1,q1⟩:=W'
 obtain⟨a,xs,e,hq,q⟩:=q1
 subst e
 obtain⟨u,rfl,ru⟩:=vals1 r1
 cases ru
 obtain⟨ag,rv,pt,hz⟩:=I1.list hq
 refine rqM pt.isList fun h' he hi hk=>?_
 refine wpAny_pyIter_enum (s:={ s1 with heap:=h' }) he ?_
 have af:a < s1.heap.objs.size:=by obtain⟨o,_,ho,_⟩:=pt;exact Heap.lt_size ho
 have ad:Inv X ac σ H1 {s1 with heap:=h' }:=I1.kept (t':=s1.toks) hk
 refine⟨s1.heap.objs.size+1,[s1.heap.objs.size+1,s1.heap.objs.size],_,_,H1,rfl,ad,sqt a s1.heap.objs.size (s1.heap.objs.size+1) xs (Nat.ne_of_lt af) (Nat.succ_ne_self _) (Nat.ne_of_gt (Nat.lt_succ_of_lt af)),⟨⟨_,he⟩,hi⟩,fun b hb=>?_,q⟩
 simp only[mem_cons,not_mem_nil,or_false] at hb
 have ae:s1.heap.objs.size≤b:=by
  rcases hb with rfl|rfl
  ·exact Nat.le_succ _
  ·exact Nat.le_refl _
 exact I1.fpOk ae (I1.hok.fresh ae)
variable {σ:St}{H:Hp}{D:Ends}{g:TG}{tb:TS}{aa:TA}
def uqP:(tFor (iEnumL K aa) g tb D σ H)=(aa σ H fun vs H1=>∃a xs,vs=[.ref a]∧SqL K H1 a xs∧LoopI (ItEL K a xs) g tb D σ H1):=rfl
def mq2 {a:Addr}{xs:List V}(Pv:Nat->St->Hp->Prop)(h0:Pv 0 σ H)(hl:∀i σ H,i≤xs.length->Pv i σ H->SqL K H a xs)
  (hs:∀i v σ H T,xs[i]?=some v->Pv i σ H->H T=none->g (.ref T) σ (upd H T (.tup [.int (i:Int),v])) fun σ2 H2=>tb {D with nx:=Pv (i+1),ct:=Pv (i+1),bk:=D.nx} σ2 H2) (hd:∀σ H,Pv xs.length σ H->D.nx σ H):LoopI (ItEL K a xs) g tb D σ H:=
 sqw Pv h0 hl (fun i σ H T ys _ p hT hy=>by obtain⟨v,hv,rfl⟩:=hy;exact hs i v σ H T hv p hT) hd
variable {p:Addr}{fv:St}{tt:TT}{te:TE}{Q:VK}{H1:Hp}{fr:List Nat}
def rqy:(tComp2 K (iEnumL K aa) fr tt te σ H Q)=(aa σ H fun vs H1=>∃a xs,vs=[.ref a]∧SqL K H1 a xs∧∀p,H1 p=none->CompI2 K (ItEL K a xs) p (frV σ fr) tt te Q H1):=rfl
def rqN:(tComp2 K (iEnum K aa) fr tt te σ H Q)=(aa σ H fun vs H1=>∃a xs,vs=[.ref a]∧SqT K H1 a xs∧∀p,H1 p=none->CompI2 K (ItE K a xs) p (frV σ fr) tt te Q H1):=rfl
end
end L2
namespace L2
open PySem PySem.Spec PySem.W PyProof.Rows
def SameD (h h':Heap):Prop:=∀(b:Nat) (o:Obj),h.objs[b]?=some o->∃o',h'.objs[b]?=some o'∧o'.dict=o.dict
def SameD.refl (h:Heap):SameD h h:=fun _ o e=>⟨o,e,rfl⟩
def SameD.trans {a b c:Heap}(x:SameD a b)(y:SameD b c):SameD a c:=fun d o e=>by
 obtain⟨o1,e1,q1⟩:=x d o e
 obtain⟨o2,e2,q2⟩:=y d o1 e1
 exact⟨o2,e2,q2.trans q1⟩
def SameD.push (h:Heap)(o:Obj):SameD h (h.push o):=fun b u e=>by
 refine⟨u,?_,rfl⟩
 have hb:b < h.objs.size:=(Array.getElem?_eq_some_iff.mp e).1
 show (h.objs.push o)[b]?=some u
 rw[Array.getElem?_push,if_neg (Nat.ne_of_lt hb)]
 exact e
def SameD.upd (h:Heap)(a:Addr){f:Obj->Obj}(hf:∀o,(f o).dict=o.dict):SameD h (h.update a f):=fun b u e=>by
 show ∃o',(h.objs.modify a f)[b]?=some o'∧_
 rw[Array.getElem?_modify]
 by_cases q:a=b
 ·rw[if_pos q,e];exact⟨f u,rfl,hf u⟩
 ·rw[if_neg q,e];exact⟨u,rfl,rfl⟩
def SameD.get {h h':Heap}(x:SameD h h'){b:Addr}{o o':Obj}(e:h.get? b=some o)(e':h'.get? b=some o'):o'.dict=o.dict:=by
 obtain⟨o1,q,r⟩:=x b o (Heap.get?_some_iff.mp e).1
 have:=(Heap.get?_some_iff.mp e').1
 rw[q] at this
 cases this
 exact r
def kd {α:Type}:Sem α->Prop
 |.pure _=>True
 |.raise _=>False
 |.unsupported _=>True
 |.finish _=>True
 |.rule _ k=>kd (k ())
 |.at _ k=>kd (k ())
 |.load _ _ k=>∀o,kd (k o)
 |.update _ _ f k=>(∀o,(f o).dict=o.dict)∧kd (k ())
 |.alloc _ k=>∀a,kd (k a)
 |.loadIfAlive _ k=>∀o,kd (k o)
 |.point _ k=>kd (k ())
 |.register _ _=>True
 |.fresh k=>∀t,kd (k t)
 |.ask k=>∀t,kd (k t)
 |.choose _ _ k=>∀t,kd (k t)
 |.os _ _ _=>False
 |.call _ _ _ _ _=>False
 |.handled _ k=>∀t,kd (k t)
 |.newGen _ _=>False
 |.genState _ _=>False
 |.resume _ _ _ _=>False
 |.yield _ _ _ _=>True
 |.stack k=>∀t,kd (k t)
 |.fork _ _=>True
 |.thread k=>∀t,kd (k t)
 |.await _ _ _ _ _=>True
theorem aq3 {α β:Type}{m:Sem α}{f:α->Sem β}(a:kd m)(b:∀x,kd (f x)):kd (m >>= f):=by
 show kd (Sem.bind m f)
 induction m with
 |pure x=>exact b x
 |raise _=>exact a.elim
 |unsupported _=>exact True.intro
 |finish _=>exact True.intro
 |rule _ k ih=>exact ih () a
 |«at» _ k ih=>exact ih () a
 |load _ _ k ih=>exact fun o=>ih o (a o)
 |update _ _ g k ih=>exact⟨a.1,ih () a.2⟩
 |alloc _ k ih=>exact fun o=>ih o (a o)
 |loadIfAlive _ k ih=>exact fun o=>ih o (a o)
 |point _ k ih=>exact ih () a
 |register _ k ih=>exact True.intro
 |fresh k ih=>exact fun o=>ih o (a o)
 |ask k ih=>exact fun o=>ih o (a o)
 |choose _ _ k ih=>exact fun o=>ih o (a o)
 |os _ _ k ih=>exact a.elim
 |call _ _ _ _ k ih=>exact a.elim
 |handled _ k ih=>exact fun o=>ih o (a o)
 |newGen _ k ih=>exact a.elim
 |genState _ k ih=>exact a.elim
 |resume _ _ _ k ih=>exact a.elim
 |yield _ _ _ k ih=>exact True.intro
 |stack k ih=>exact fun o=>ih o (a o)
 |fork _ k ih=>exact True.intro
 |thread k ih=>exact fun o=>ih o (a o)
 |await _ _ _ _ k ih=>exact True.intro
theorem AqY {α:Type}{M:Model}{Γ:PySem.Ctx}(t:Sem α):∀{Q:α->Pos->Shared->Prop}{E:Value->Pos->Shared->Prop}{p:Pos}{s:Shared},kd t->Sem.wp M Γ t Q E p s ->
  Sem.wp M Γ t (fun a p' s'=>Q a p' s'∧SameD s.heap s'.heap) (fun _ _ _=>False) p s:=by
 induction t with
 |pure x=>intro Q E p s _ h;exact⟨h,.refl _⟩
 |raise _=>intro Q E p s a h;exact a.elim
 |unsupported _=>intro Q E p s _ h;exact h.elim
 |finish _=>intro Q E p s _ h;exact h.elim
 |rule _ k ih=>intro Q E p s a h;exact ih () a h
 |«at» _ k ih=>intro Q E p s a h;exact ih () a h
 |load _ _ k ih=>intro Q E p s a h;obtain⟨o,e,h⟩:=h;exact⟨o,e,ih o (a o) h⟩
 |update x _ g k ih=>
  intro Q E p s a h
  obtain⟨e,h⟩:=h
  exact⟨e,Sem.wp_mono M Γ (k ()) (fun _ _ _ z=>⟨z.1,(SameD.upd _ _ a.1).trans z.2⟩) (fun _ _ _ z=>z) _ _ (ih () a.2 h)⟩
 |alloc o k ih=>intro Q E p s a h;exact Sem.wp_mono M Γ (k _) (fun _ _ _ z=>⟨z.1,(SameD.push _ _).trans z.2⟩) (fun _ _ _ z=>z) _ _ (ih _ (a _) h)
 |loadIfAlive _ k ih=>intro Q E p s a h;exact ih _ (a _) h
 |point _ k ih=>intro Q E p s a h;exact ih () a h
 |register _ k ih=>intro Q E p s _ h;exact h.elim
 |fresh k ih=>intro Q E p s a h;exact ih _ (a _) h
 |ask k ih=>intro Q E p s a h;exact ih _ (a _) h
 |choose _ _ k ih=>intro Q E p s a h;exact⟨h.1,ih _ (a _) h.2⟩
 |os _ _ k ih=>intro Q E p s a h;exact a.elim
 |call _ _ _ _ k ih=>intro Q E p s a h;exact a.elim
 |handled _ k ih=>intro Q E p s a h;exact ih _ (a _) h
 |newGen _ k ih=>intro Q E p s a h;exact a.elim
 |genState _ k ih=>intro Q E p s a h;exact a.elim
 |resume _ _ _ k ih=>intro Q E p s a h;exact a.elim
 |yield _ _ _ k ih=>intro Q E p s a h;exact h.elim
 |stack k ih=>intro Q E p s a h;exact ih _ (a _) h
 |fork _ k ih=>intro Q E p s a h;exact h.elim
 |thread k ih=>intro Q E p s a h;exact ih _ (a _) h
 |await _ _ _ _ k ih=>intro Q E p s a h;exact h.elim
def eq3 {α:Type}{M:Model}{A:Around}{t:Sem α}{Q:α->Shared->Prop}{E:Value->Shared->Prop}{s:Shared}(k:kd t)(h:wpAny M A t Q E s):wpAny M A t (fun a s'=>Q a s'∧SameD s.heap s'.heap) (fun _ _=>False) s:=
 fun Γ p hΓ=>AqY t k (h Γ p hΓ)
def pqX (v:Value):kd (fieldsOf v):=by
 cases v <;> first|exact True.intro|(refine aq3 (fun _=>True.intro) fun o=>?_;split <;> exact True.intro)
def lqb (v:Value)(i:Nat):kd (field v i):=by
 refine aq3 (pqX v) fun x=>?_
 split <;> exact True.intro
def iqj (v:Value)(i:Nat)(x:Value):kd (setField v i x):=by
 cases v <;> first|exact True.intro|skip
 refine aq3 (fun _=>True.intro) fun o=>?_
 split
 ·split
  ·refine⟨fun o=>?_,True.intro⟩
   unfold Obj.mapFields
   first|rfl|(split <;> rfl)|(cases o;rename_i d _;cases d <;> rfl)
  ·exact True.intro
 ·exact True.intro
def dqr (e:Value)(f:Option Addr):kd (setFlight e f):=by
 refine aq3 (lqb e 1) fun tb=>?_
 try dsimp only
 split
 ·exact iqj _ _ _
 ·exact True.intro
theorem hqU:∀l:List Env,kd (readyFrames l)
 |[]=>True.intro
 |env::outer=>by
  unfold readyFrames
  split
  ·refine aq3 (fun _=>True.intro) fun o=>?_
   try dsimp only
   split
   ·exact True.intro
   ·refine aq3 ?_ fun im=>?_
    ·unfold behindIsImport
     try dsimp only
     split
     ·exact True.intro
     ·split
      ·exact True.intro
      ·exact aq3 (lqb _ _) fun _=>True.intro
    ·refine aq3 ?_ fun bk=>?_
     ·unfold keptBack
      split
      ·split
       ·exact True.intro
       ·exact aq3 (aq3 (fun _=>True.intro) fun _=>True.intro) fun _=>by split <;> exact True.intro
      ·exact True.intro
     ·exact aq3 ⟨fun _=>rfl,True.intro⟩ fun _=>hqU outer
  ·exact True.intro
def rqD (env:Env):kd (PySem.frameOf env):=by
 unfold PySem.frameOf
 refine aq3 (aq3 (fun _=>True.intro) fun _=>True.intro) fun l=>aq3 ?_ fun r=>?_
 ·unfold frameObject
  split
  ·exact True.intro
  ·exact aq3 (hqU _) fun _=>True.intro
 ·split <;> exact True.intro
def pqf (ty:String)(vs:List Value):kd (newFields ty vs):=by
 unfold newFields newObj newObjAsIs
 try dsimp only
 split
 ·exact True.intro
 ·exact fun _=>True.intro
theorem kqb (e:Value)(env:Env):kd (noteFrame e env):=by
 unfold noteFrame
 split
 ·refine aq3 (lqb e 1) fun hd=>?_
  try dsimp only
  have ac:∀(x:Unit) (f:Addr) (hd:Value),kd (do setField e 1 (<- EntryCells.newEntry hd (<- PySem.frameOf env) .none (rawInt f) .none (<- entryPlaceOf f (hd != .none))):Sem Unit):=fun _ f hd=>by
   refine aq3 (rqD env) fun _=>aq3 ?_ fun _=>aq3 ?_ fun _=>iqj _ _ _
   ·unfold entryPlaceOf
    refine aq3 (fun _=>True.intro) fun ad=>?_
    split <;> exact True.intro
   ·unfold EntryCells.newEntry
    exact pqf _ _
  split
  ·refine aq3 (lqb _ _) fun g=>?_
   try dsimp only
   split
   ·exact True.intro
   ·exact aq3 (iqj _ _ _) fun _=>ac () _ _
  ·exact ac () _ _
 ·exact True.intro
def jqK (env:Env)(e:Value):kd (leaving env e):=aq3 (kqb e env) fun _=>dqr e none
end L2
namespace L2
open PySem PySem.Spec PySem.W PySem.Calls PyProof.Rows PySem.Builtin PySem.Builtin.ObjectAttr
def errTail:List Value->Bool
 |.ref _::r=>errTail r
 |l=>l == vErr
theorem mqV (self:Value):∀{l:List Value},errTail l=true->refuseLoop self "__setattr__" l=pure ()
 |[],e=>by cases e
 |v::r,e=>by
  cases v <;> first|(rw[refuseLoop_ref];exact mqV self (by unfold errTail at e;exact e))|(rw[show (_::r)=vErr from beq_iff_eq.mp e];exact PySem.F.store_ValueError.passes self)
theorem tqR:∀{l:List Value},errTail l=true->l.contains (.type "object")=true
 |[],e=>by cases e
 |v::r,e=>by
  cases v <;> first|(rw[List.contains_cons,tqR (l:=r) (by unfold errTail at e;exact e),Bool.or_true])|(rw[show (_::r)=vErr from beq_iff_eq.mp e];decide +kernel)
def overErr (K:Frag)(C:Addr):Bool:=(clsIn K C).any fun cd=>errTail cd.mro
section
variable {prog:Program}{w:World}{A:Around}{E:Value->Shared->Prop}{s:Shared}{K:Frag}{x C:Addr}{name:Str}{v:Value}{ox:Obj}{od:Option Obj}
theorem yqG {tk:Tok}{R:Result->Shared->Prop}(X:K.In s.heap)(I:PySem.W.InstAt s.heap x ox C od)(hp:overErr K C=true)(ht:takerIn K C name=some none)
  (h:∀b,wpAny (model prog w) A.in1 (storeInOwnDict (.ref x) (.ref C) (.str name tk) name v b)
   (fun fin s'=>match fin with|.done f=>R (.ok f) s'|.again c'=>c'.quiet=true∧codeAny (model prog w) A c' R s') (fun e s'=>R (.error e) s') s) :
  codeAny (model prog w) A (.call (.builtin "object.__setattr__") ⟨[.ref x,.str name tk,v],[]⟩) R s:=by
 have SF:=PySem.F.store_object
 obtain⟨cd,hc,ho⟩:=any_some hp
 have ne:cd.mro.isEmpty=false:=by cases q:cd.mro with|nil=>rw[q] at ho;cases ho|cons _ _=>rfl
 have ad:Looks (model prog w) s.heap (isInstance (.ref x) (.type "object")) true:=I.type.andThen (looks_mroIn X (by unfold mroIn;rw[hc,Option.bind_some,if_neg (by rw[ne];decide),tqR ho]))
 refine codeAny_call_builtin SF.slot.plain SF.entry (@check_slot (model prog w) _ _ s "object.__setattr__" "object" "__setattr__" (.ref x) [.str name tk,v] [] _ SF.kind SF.split ad (SF.args (.ref x) (.str name tk) v) ?_)
 obtain⟨ac,ha,hr⟩:=Option.bind_eq_some_iff.mp ht
 have hm:Looks (model prog w) s.heap (mroOf (.ref C)) cd.mro:=(looks_clsIn X hc).andThen .now
 have L3:Looks (model prog w) s.heap (storeTaker? ac) none:=by
  cases ac with
  |none=>exact .now
  |some a=>
   obtain⟨b,hb,ae⟩:=Option.map_eq_some_iff.mp hr
   refine (looks_takesIn X hb).andThen ?_
   cases b with
   |true=>cases ae
   |false=>exact .now
 rw[osa_eq,refuse_eq]
 refine wpAny_bind (wpAny_bind (I.type.here (wpAny_bind (hm.here ?_))))
 rw[mqV _ ho]
 refine wpAny_pure (wpAny_bind (I.type.here (wpAny_bind ((looks_findIn X ha).here (wpAny_bind (L3.here ?_))))))
 exact h _
theorem xqt {Q:Unit->Shared->Prop}(X:K.In s.heap)(hx:s.heap.get? x=some ox)(hc:ox.cls=.ref C)(hd:ox.dict=none)(hn:notCls ox=true)
  (hs:findIn K (.ref C) "__setattr__"=some (some (.builtin "object.__setattr__"))) (hp:overErr K C=true) (ht:takerIn K C name=some none) (hh:hasDictIn K C=true)
  (h:∀h' tk,h'.get? x=some {ox with dict:=some s.heap.objs.size}->h'.Ns1 s.heap.objs.size (fun y=>if y=name then some v else none)->(∀b o,b≠x->s.heap.get? b=some o->h'.get? b=some o)->Q () {s with heap:=h',toks:=tk}) :
  wpAny (model prog w) A (setAttr (.ref x) name v) Q E s:=by
 have J:PySem.W.InstAt s.heap x ox C none:=⟨hx,hc,hn,by rw[hd];exact True.intro⟩
 refine PySem.W.set_plain X J hs (yqG (s:={ s with toks:=s.toks+1}) X J hp ht fun b=>?_)
 obtain⟨cd,aq,ap⟩:=any_some hh
 obtain⟨oc,au,ac,ai⟩:=ox
 dsimp only at hc hd
 subst hc hd
 refine wpAny_bind (wpAny_pure (wpAny_bind (wpAny_bind (wpAny_loadPart hx (wpAny_bind (Looks.here (s:={ s with toks:=s.toks+1}) (looks_clsIn X aq) ?_))))))
 rw[ap]
 have nc:∀c,ac≠.cls c:=fun c q=>by subst q;cases hn
 have ae:(s.heap.push {cls:=.type "dict",data:=.dict #[]}).get? x=some ⟨.ref C,none,ac,ai⟩:=Heap.get?_push_of_some _ hx
 have af:x≠s.heap.objs.size:=Nat.ne_of_lt (Heap.lt_size hx)
 have am:((s.heap.push {cls:=.type "dict",data:=.dict #[]}).update x fun o=>{ o with dict:=some s.heap.objs.size}).get? s.heap.objs.size=some {cls:=.type "dict",data:=.dict #[]}:=
  (Heap.get?_update_ne _ _ _ _ af.symm).trans (Heap.get?_push_at rfl rfl)
 have al:((s.heap.push {cls:=.type "dict",data:=.dict #[]}).update x fun o=>{ o with dict:=some s.heap.objs.size}).Ns s.heap.objs.size (fun _=>none):=
  ⟨_,#[],_,am,rfl,fun e he=>absurd he (by simp),fun _=>rfl⟩
 have ad:wpAny (model prog w) A.in1 (storeInDict s.heap.objs.size (.str name (s.toks)) name v)
   (fun ad s'=>match ad with|.done f=>(match (Except.ok f:Result) with|.ok (.ret _)=>Q () s'|.ok _=>False|.error e=>E e s')|.again c'=>c'.quiet=true∧codeAny (model prog w) A c' (fun r s'=>match r with|.ok (.ret _)=>Q () s'|.ok _=>False|.error e=>E e s') s') (fun e s'=>E e s')
   { s with heap:=((s.heap.push {cls:=.type "dict",data:=.dict #[]}).update x fun o=>{ o with dict:=some s.heap.objs.size}),toks:=s.toks+1}:=by
  unfold storeInDict newKeyGuard
  refine wpAny_bind (wpAny_pure (wpAny_bind (wpAny_nsSet1 (s:={ s with heap:=((s.heap.push {cls:=.type "dict",data:=.dict #[]}).update x fun o=>{ o with dict:=some s.heap.objs.size}),toks:=s.toks+1}) (Heap.Ns1.of_empty al) fun h' ah ag=>?_)))
  obtain⟨oD,aw,ax,aj,ao,ar⟩:=ah.count (Within.cons name v Within.nil)
  refine wpAny_bind (wpAny_lookBehind aj (by rw[ao];exact pastItsLine_dict (Nat.le_trans ar (by rw[length_cons,length_nil,sizeLine_eq];lia))) ?_)
  refine wpAny_pure (h h' _ ?_ ah fun b o hb e=>?_)
  ·refine (ag.2 x af).trans (Heap.get?_update_self _ ae ?_)
   have av:=(Heap.get?_some_iff.mp hx).2
   cases ac <;> first|rfl|exact av
  ·exact (ag.2 b (Nat.ne_of_lt (Heap.lt_size e))).trans ((Heap.get?_update_ne _ _ _ _ hb).trans (Heap.get?_push_of_some _ e))
 cases ac <;> first|exact absurd rfl (nc _)|exact wpAny_bind (wpAny_alloc' (wpAny_bind (wpAny_update' ae (wpAny_pure ad))))
end
end L2
namespace L2
open PySem PySem.Spec PySem.W PySem.Calls PyProof.Rows
def yqv {K:Frag}{h:Heap}{N:Addr}{m:Str->Option Value}{n:Str}{v:Value}(X:K.In h)(G:h.Ns N m)(e:nsIn K N n=some (some v)):m n=some v:=by
 obtain⟨o,es,ep,ho,hd,_,hf⟩:=G
 unfold nsIn at e
 split at e
 ·next q=>
  have:=X _ _ q
  rw[ho] at this
  cases this
  cases hd
  split at e
  ·next he=>
   cases e
   rw[<- hf]
   unfold nsFind findBy
   rw[<- Array.find?_toList,he]
   rfl
  ·split at e <;> cases e
 ·cases e
abbrev newExc (C t:Addr):Obj:={ cls:=.ref C,data:=.fields #[.ref t,.none,.none,.none,.bool false,.none]}
abbrev newTup (vs:List Value):Obj:={ cls:=.type "tuple",data:=.seq vs.toArray}
section
variable {prog:Program}{w:World}{A:Around}{E:Value->Shared->Prop}{h:Heap}{g:Array GenState}{d:Drawn}{t:Nat}{os:OsState}
variable {nm q:Str}{C N:Addr}{bs bm bmB:List Value}{hdct:Bool}{sn:List Str}{sub:List Value}{ab:Bool}{col:Option Bool}{dd:Option Addr}{k0 k1 k2 k3 k5:Option Value}{B newId initId:String}
theorem mqE (F:ExcBaseFacts B newId initId bmB)(T:OwnTail h bmB bm){mN:Str->Option Value}{rest:List Value}{fI:Addr}{oI:Obj}{Q:Fin->Shared->Prop}
  (hC:h.get? C=some (excClassObj nm q C N bs bm hdct sn sub ab col dd k0 k1 k2 k3 k5 newId)) (hn:h.Ns N mN) (hi:mN "__init__"=some (.ref fI))
  (hfI:h.get? fI=some oI) (hfc:oI.cls=.type "function")
  (hq:wpAny (model prog w) A (call (.ref fI) (.ref (h.objs.size+1)::rest)) (fun r s'=>r=.none∧Q (.done (.ret (.ref (h.objs.size+1)))) s') E ⟨(h.push (newTup rest)).push (newExc C h.objs.size),g,d,t,os⟩) (hrest:rest.length≤sizeLine) :
  wpAny (model prog w) A (Builtin.«type.__call__» ⟨.ref C::rest,[]⟩) Q E ⟨h,g,d,t,os⟩:=by
 repeat (first|with_reducible refine wpAny_loadPart_at hC ?_|with_reducible refine wpAny_madeBy_exc hC ?_|wp_step)
 refine codeAny_call_builtin_code (Code.quiet_builtin _ F.quiet) (wpAny_check_new_subU F F.hasB T hC ?_)
 refine codeAny_exc_new_subU F F.hasB F T hC ?_ hrest
 show wpAny _ _ _ _ _ _
 have kp:∀b o,h.get? b=some o->((h.push (newTup rest)).push (newExc C h.objs.size)).get? b=some o:=fun b o e=>Heap.get?_push_of_some _ (Heap.get?_push_of_some _ e)
 have ag:=kp _ _ hC
 have ae:=kp _ _ hfI
 have ad:((h.push (newTup rest)).push (newExc C h.objs.size)).Ns N mN:=hn.keeps kp
 have ac:((h.push (newTup rest)).push (newExc C h.objs.size)).get? (h.objs.size+1)=some (newExc C h.objs.size):=by heap_get
 have af:(Value.ref C::bm).contains (.ref C)=true:=by simp
 have T₁:=T.keeps kp
 unfold isInstance
 repeat (first|with_reducible refine wpAny_loadPart_at ac ?_|(with_reducible refine wpAny_isSubtype_exc ag ?_;rw[af])|wp_step)
 show wpAny _ _ (typeLookup (.ref C) _) _ _ _
 refine wpAny_typeLookup_tail ag ad T₁ F.mroIs F.init.lookup ?_
 rw[hi]
 refine wpAny_holding (wpAny_bind ?_)
 unfold bindSpecial
 refine wpAny_bind (wpAny_typeOf (T := "function") ⟨_,ae,hfc⟩ ?_)
 rw[if_pos (by decide)]
 refine wpAny_pure (wpAny_bind (wpAny_mono hq (fun r s' hr=>?_) fun _ _ x=>x))
 obtain⟨rfl,hQ⟩:=hr
 wp_walk
 exact hQ
theorem sq0 (F:ExcBaseFacts B newId initId bmB)(T:OwnTail h bmB bm){mN:Str->Option Value}{rest:List Value}{fI:Addr}{oI:Obj}{Q:Value->Shared->Prop}
  (hC:h.get? C=some (excClassObj nm q C N bs bm hdct sn sub ab col dd k0 k1 k2 k3 k5 newId)) (hn:h.Ns N mN) (hi:mN "__init__"=some (.ref fI))
  (hfI:h.get? fI=some oI) (hfc:oI.cls=.type "function")
  (hq:wpAny (model prog w) (A.under (.builtin "type.__call__" ⟨.ref C::rest,[]⟩)) (call (.ref fI) (.ref (h.objs.size+1)::rest)) (fun r s'=>r=.none∧Q (.ref (h.objs.size+1)) s') E ⟨(h.push (newTup rest)).push (newExc C h.objs.size),g,d,t,os⟩) (hrest:rest.length≤sizeLine) :
  wpAny (model prog w) A (call (.ref C) rest) Q E ⟨h,g,d,t,os⟩:=by
 have f1:=tc_lookup
 have f2:=tc_bind (.ref C)
 have hT:(⟨h,g,d,t,os⟩:Shared).TypeIs (.ref C) "type" := ⟨_,hC,rfl⟩
 refine wpAny_call (codeAny_of_tree ?_)
 show wpAny _ _ (callAny (.ref C) _) _ _ _
 repeat (any_goals (first|assumption|with_reducible refine wpAny_loadPart_at hC ?_|wp_step))
 refine⟨rfl,?_⟩
 exact codeAny_call_builtin_at (Code.quiet_builtin _ (by decide +kernel)) entry_typeCall (wpAny_check_type_call_sub hC (mqE (hrest:=hrest) F T hC hn hi hfI hfc hq))
theorem nqZ {M:Model}{s:Shared}{env:Env}{x:Sem Value}{Q:Flow->Shared->Prop}(hbase:bm.contains (.type "BaseException")=true)(hh:A.handled=none)
  (h:wpAny M A x (fun v s₁=>∃e t dx sl,v=.ref e∧s₁.heap.get? C=some (excClassObj nm q C N bs bm hdct sn sub ab col dd k0 k1 k2 k3 k5 newId) ∧
   s₁.heap.get? e=some ⟨.ref C,dx,.fields #[.ref t,.none,.none,.none,.bool false,.none],sl⟩∧E (.ref e) s₁) E s) :
  wpAny M A (raiseStmt env (some x) none) Q E s:=by
 have ac:(Value.ref C::bm).contains (.type "BaseException")=true:=by rw[List.contains_cons,hbase,Bool.or_true]
 unfold raiseStmt
 refine wpAny_bind (wpAny_mono h (fun v s₁ h₁=>?_) fun _ _ x=>x)
 obtain⟨e,t,dx,sl,rfl,hC,he,hE⟩:=h₁
 obtain⟨hp,g,d,tk,os⟩:=s₁
 repeat (first|with_reducible refine wpAny_loadPart_at he ?_|with_reducible refine wpAny_loadPart_at hC ?_|(with_reducible refine wpAny_isSubtype_exc hC ?_;rw[ac])|wp_step)
 exact wpAny_raiseNew_none hh hE
end
def exNew (e C:Addr):HO:=.ext fun h=>∃t sl,h.get? e=some ⟨.ref C,none,.fields #[.ref t,.none,.none,.none,.bool false,.none],sl⟩
def exSet (e C d:Addr):HO:=.ext fun h=>∃t sl,h.get? e=some ⟨.ref C,some d,.fields #[.ref t,.none,.none,.none,.bool false,.none],sl⟩
def exC (a C:Addr)(d:Option Addr):HO:=.ext fun h=>∃o,h.get? a=some o∧o.cls=.ref C∧(∀x,d=some x->o.dict=some x)∧notCls o=true
structure ExSt (K:Frag)(C:Addr)(f:Str):Prop where
 sa:findIn K (.ref C) "__setattr__"=some (some (.builtin "object.__setattr__"))
 po:overErr K C=true
 na:findIn K (.ref C) f=some none
 hd:hasDictIn K C=true
def sFldE (K:Frag)(ta tv:TE)(f:Str):TS:=fun D σ H=>tv σ H fun y H1=>ta σ H1 fun x H2=>∃a C,x=.ref a∧H2 a=some (exNew a C)∧ExSt K C f∧∀d,H2 d=none->D.nx σ (upd (upd H2 a (exSet a C d)) d (.xd [(f,y)]))
section
variable {X:Cx}{ta tv:TE}{o value:Expr}{f:Str}{pos pos':Pos}
theorem xqR (ha:PE X o ta)(hv:PE X value tv)(hs:swapsWith value (some (.Attribute o f pos')) pos.line X.env=pure false):PS X (.Assign [.Attribute o f pos'] value pos) (sFldE X.K ta tv f):=by
 intro ac s σ H D I h
 refine plainObj_wpAny_Assign_Attribute (thn (hv ac s σ H _ I h) fun u s1 ⟨y,H1,I1,ry,q⟩=>thn (ha ac s1 σ H1 _ I1 q) fun ov s2 W'=>?_) hs
 obtain⟨x,H2,I2,rx,a,C,ex,ea,c,q2⟩:=W'
 subst ex
 obtain rfl:ov=Value.ref a:=rx
 obtain⟨⟨t,sl,hx⟩,_,_⟩:=I2.hok a _ ea
 refine xqt I2.kIn hx rfl rfl rfl c.sa c.po (NoAttr.taker (show NoAttr X.K C f from c.na)) c.hd fun h' tk e1 e2 e3=>?_
 have hd:H2 s2.heap.objs.size=none:=I2.hok.fresh (Nat.le_refl _)
 have na:∀b u,H2 b=some u->u≠exNew a C->b≠a:=fun b u q n z=>by subst z;rw[ea] at q;exact n (Option.some.inj q).symm
 have nd:∀b u,s2.heap.get? b=some u->b≠s2.heap.objs.size:=fun b u q=>Nat.ne_of_lt (Heap.lt_size q)
 have nf:∀b,H2 b=none->b≠a:=fun b q z=>by subst z;rw[ea] at q;cases q
 have ad:∀b u,H2 b=some u->b≠s2.heap.objs.size:=fun b u q=>aqn q hd
 refine⟨σ,upd (upd H2 a (exSet a C s2.heap.objs.size)) s2.heap.objs.size (.xd [(f,y)]),I2.un (t':=tk) ⟨fun b ob q n _ _=>e3 b ob (nf b n) q,fun b ob q n _ _=>⟨ob.slots,e3 b ob (nf b n) q⟩,fun b ob q n _=>?_,fun b ob q _=>?_,fun b xs q=>?_,fun b ob u q=>?_,fun b ps q=>?_⟩ (fun b u q=>?_),q2 _ hd⟩
 ·rw[aqp (nd b ob q),aqp (nf b n)];exact n
 ·by_cases z:b=a
  ·subst z;exact⟨_,e1⟩
  ·exact⟨ob,e3 b ob z q⟩
 ·rw[aqp (ad b _ q),aqp (na b _ q (by intro z;cases z))];exact q
 ·rw[aqp (ad b _ q),aqp (na b _ q (by intro z;cases z))];exact q
 ·exact⟨#[],by rw[aqp (ad b _ q),aqp (na b _ q (by intro z;cases z)),Array.append_empty];exact q⟩
 ·by_cases zd:b=s2.heap.objs.size
  ·subst zd
   rw[aqm] at q
   cases q
   refine⟨_,e2,fun g=>?_⟩
   by_cases z:g=f
   ·subst z
    rw[if_pos rfl]
    simp only[List.lookup,beq_self_eq_true]
    exact ry
   ·rw[if_neg z]
    simp only[List.lookup,beq_eq_false_iff_ne.mpr z]
    exact True.intro
  ·rw[aqp zd] at q
   by_cases za:b=a
   ·subst za
    rw[aqm] at q
    cases q
    exact⟨⟨t,sl,e1⟩,⟨_,e1⟩,fun h1 h2 ⟨t,sl,z⟩ k=>⟨t,sl,k _ z⟩⟩
   ·rw[aqp za] at q
    refine (I2.hok b u q).stay (fun c v hc z=>e3 c v ?_ z) (fun c z=>?_) fun c xs z=>?_
    ·rcases hc with rfl|hc
     ·exact za
     ·exact na c _ hc (by intro z;cases z)
    ·rw[aqp (ad c _ z),aqp (na c _ z (by intro z;cases z))];exact z
    ·rw[aqp (ad c _ z),aqp (na c _ z (by intro z;cases z))];exact z
def xqW {K:Frag}{D:Ends}{σ:St}{H:Hp}:(sFldE K ta tv f D σ H)=(tv σ H fun y H1=>ta σ H1 fun x H2=>∃a C,x=.ref a∧H2 a=some (exNew a C)∧ExSt K C f∧∀d,H2 d=none->D.nx σ (upd (upd H2 a (exSet a C d)) d (.xd [(f,y)]))):=rfl
end
def forget (H:Hp)(a:Addr):Hp:=fun b=>if b=a then none else H b
def qqb {H:Hp}{a:Addr}:forget H a a=none:=if_pos rfl
def cqr {H:Hp}{a b:Addr}(h:b≠a):forget H a b=H b:=if_neg h
structure FlownN (P:Program)(w:World)(base:Heap)(outer:List Env)(H:Hp)(s:Shared)(a t C:Addr)(d:Option Addr)(B:Heap)(H':Hp)(s':Shared):Prop where
 f:Flown P w base outer H s a t C B H' s'
 dc:∀x,d=some x->∃oe,s'.heap.get? a=some oe∧oe.dict=some x
def CXN (P:Program)(w:World)(base:Heap):CXT:=fun outer H s E e s'=>∃(a t C:Addr) (d:Option Addr) (B:Heap) (H':Hp),e=.ref a∧E (.ref C) d H'∧FlownN P w base outer H s a t C d B H' s'
def Inv.xe {X:Cx}{pins:List (Addr×Obj)}{σ:St}{H:Hp}{s:Shared}(y:Value->Shared->Prop)(I:Inv X pins σ H s):Inv {X with xe:=y} pins σ H s:=
 ⟨⟨I.ok.mod,I.ok.kind,I.ok.glob,I.ok.blt,I.ok.above,I.ok.inj,I.ok.has,I.ok.cab,I.ok.hd,I.ok.frames,I.ok.stk,I.ok.exf,I.ok.bs,I.ok.bsz,I.ok.noex,I.ok.exfs,I.ok.funs,I.ok.frf⟩,I.os,I.bare,I.base,I.loc,I.cell,I.free,I.freeC,I.pin,I.hok,I.len⟩
section
variable {P:Program}{w:World}{K:Frag}{mg:Str->Option Value}{base:Heap}{N:List Str}{qual:Str}{scope:Scope}{f:Addr}{cd:Value}{A:Around}{outer:List Env}{s:Shared}{H:Hp}{E:XK}
theorem fqs:Passes (CXN P w base) (cxOf (CXN P w base) P w K mg base N qual scope f cd A outer s H E) E:=by
 intro ac σ H1 s1 e s2 I hq
 obtain⟨a,t,C,d,B,H2,rfl,hE,W⟩:=hq
 have I':Inv (cxOf (CXE P w base) P w K mg base N qual scope f cd A outer s H fun c _ H'=>E c d H') ac σ H1 s1:=I.xe _
 have z:=tqc (E:=fun c _ H'=>E c d H') ac σ H1 s1 (.ref a) s2 I' ⟨a,t,C,B,H2,rfl,hE,W.f⟩
 refine wpAny_mono (eq3 (jqK _ _) z) (fun _ s3 W'=>?_) fun _ _ z=>z.elim
 obtain⟨⟨a',t',C',B',H',ea,ae,W'⟩,sd⟩:=W'
 cases ea
 refine⟨a,t',C',d,B',H',rfl,ae,W',fun x hx=>?_⟩
 obtain⟨oe,ho,hd⟩:=W.dc x hx
 obtain⟨ob,ad,_⟩:=W'.fly.there
 exact⟨ob,ad,(sd.get ho ad).trans hd⟩
theorem sqc {pins:List (Addr×Obj)}{σ:St}{H1:Hp}{s1:Shared}{h':Heap}{e C:Addr}(I:Inv (cxOf (CXN P w base) P w K mg base N qual scope f cd A outer s H E) pins σ H1 s1)(hm:Heap.MadeExcOf s1.heap h' e (.ref C) [])(hE:E (.ref C) none H1) :
  (cxOf (CXN P w base) P w K mg base N qual scope f cd A outer s H E).xe (.ref e) {s1 with heap:=h' }:=by
 have I':Inv (cxOf (CXE P w base) P w K mg base N qual scope f cd A outer s H fun c _ H'=>E c none H') pins σ H1 s1:=I.xe _
 refine wpAny_mono (eq3 (jqK _ _) (sqH (E:=fun c _ H'=>E c none H') pins σ H1 s1 h' e C I' hm hE)) (fun _ s3 W'=>?_) fun _ _ z=>z.elim
 obtain⟨⟨a',t',C',B',H',ea,ac,W'⟩,sd⟩:=W'
 exact⟨a',t',C',none,B',H',ea,ac,W',fun x hx=>by cases hx⟩
def raisesN:Raises (cxOf (CXN P w base) P w K mg base N qual scope f cd A outer s H E) E:=fun _ _ _ _ _ _ _ I hm hE=>sqc I hm hE
def Raises1 (X:Cx)(E:XK):Prop:=∀(pins:List (Addr×Obj)) (σ:St) (H:Hp) (s:Shared) (a C d:Addr),Inv X pins σ H s->H a=some (exSet a C d)->X.s₀.heap.objs.size≤a->E (.ref C) (some d) (forget H a)->X.xe (.ref a) s
theorem mqG:Raises1 (cxOf (CXN P w base) P w K mg base N qual scope f cd A outer s H E) E:=by
 intro ap σ H1 s1 e C d I ha aq hE
 have hf:(envOfC qual scope s.heap.objs.size f cd).frame=some s.heap.objs.size:=rfl
 have ag:s1.heap.FunFrames base (envOfC qual scope s.heap.objs.size f cd::outer):=I.stack
 have ai:∀b∈frs (envOfC qual scope s.heap.objs.size f cd::outer),H1 b=none:=I.stkFree
 have ib:Un (frs outer) [] H H1 s.heap s1.heap:=I.base
 obtain⟨⟨t,sl,he⟩,_,_⟩:=I.hok e _ ha
 have af:s.heap.objs.size≤e:=aq
 have al:∀b o,s.heap.get? b=some o->b≠e:=fun b o q=>Nat.ne_of_lt (Nat.lt_of_lt_of_le (Heap.lt_size q) af)
 have ne:∀b o,s.heap.get? b=some o->b∉frs outer->b∉e::frs (envOfC qual scope s.heap.objs.size f cd::outer):=fun b o q n z=>by
  rcases mem_cons.mp z with z|z
  ·exact al b o q z
  ·rcases (fqZ hf).mp z with z|z
   ·exact absurd (Heap.lt_size q) (by rw[z];exact Nat.lt_irrefl _)
   ·exact n z
 have eN:e∉frs (envOfC qual scope s.heap.objs.size f cd::outer):=fun z=>by rw[ai e z] at ha;cases ha
 show wpAny (model P w) (A.deeper (envOfC qual scope s.heap.objs.size f cd)) (leaving (envOfC qual scope s.heap.objs.size f cd) (.ref e)) _ _ _
 have kB:Heap.StaysIn (hideAll s1.heap (e::frs (envOfC qual scope s.heap.objs.size f cd::outer))) s1.heap:=fun b o q=>of_hideAll _ q
 refine wpAny_mono (eq3 (jqK _ _) (wpAny_leaving_firstW (E:=fun _ _=>False) (Q:=fun _ s3=>∃h',s3={ s1 with heap:=h' }∧Heap.LeftW (hideAll s1.heap (e::frs (envOfC qual scope s.heap.objs.size f cd::outer))) (envOfC qual scope s.heap.objs.size f cd::outer) e (.ref C) (.ref t) s1.heap h')
  (base:=hideAll s1.heap (e::frs (envOfC qual scope s.heap.objs.size f cd::outer))) (oe:=⟨.ref C,some d,.fields #[.ref t,.none,.none,.none,.bool false,.none],sl⟩) (a0:=.ref t) I.ok.frames
  (funFrames_hide ag fun au he b hb=>mem_cons_of_mem _ (mem_filterMap.mpr ⟨au,he,hb⟩)) hf he kB (hideAll_none _ (.head _)) rfl rfl rfl fun h' L=>⟨h',rfl,L⟩)) (fun _ s3 ⟨⟨h2,ar,L⟩,sd⟩=>?_) fun _ _ z=>z.elim
 subst ar
 obtain⟨x1,⟨_,_,x2⟩,x3,x4⟩:=L
 have ad:∀b o,s.heap.get? b=some o->H b=none->b∉frs outer->(hideAll s1.heap (e::frs (envOfC qual scope s.heap.objs.size f cd::outer))).get? b=some o:=fun b o q n nf=>
  hideAll_get _ (ib.keep b o q n nf (by simp)) (ne b o q nf)
 have ah:∀b o,s.heap.get? b=some o->b∉frs outer->∃o',(hideAll s1.heap (e::frs (envOfC qual scope s.heap.objs.size f cd::outer))).get? b=some o':=fun b o q nf=>by
  obtain⟨o',z⟩:=ib.there b o q (by simp)
  exact⟨o',hideAll_get _ z (ne b o q nf)⟩
 have ac:∀b,b∈frs outer->∀o,s1.heap.get? b=some o->∃sl,h2.get? b=some {o with slots:=sl}:=fun b hb o q=>by
  obtain⟨_,o2,q2,nd⟩:=ag.mem ((fqZ hf).mpr (.inr hb))
  rw[q] at q2
  cases q2
  exact x4 b o q nd
 have ao:Heap.FlyingW (hideAll s1.heap (e::frs (envOfC qual scope s.heap.objs.size f cd::outer))) outer e (.ref C) (.ref t) h2:=⟨x1,hideAll_none _ (.head _),x2,x3⟩
 have ae:∀b u,H1 b=some u->u≠exSet e C d->b≠e:=fun b u q n z=>by subst z;rw[ha] at q;exact n (Option.some.inj q).symm
 refine⟨e,t,C,some d,_,forget H1 e,rfl,hE,⟨I.os,I.bare,fun b o q=>?_,ao,fun a u q=>?_,⟨fun b o q n nf _=>x1 b o (ad b o q n nf),fun b o q n hb _=>?_,fun b o q n hx=>?_,fun b o q _=>?_,fun b xs q=>?_,fun b o u q=>?_,fun b ps q=>?_⟩,ad,ah⟩,fun x hx=>?_⟩
 ·refine hideAll_get _ (I.bk b o q) fun z=>?_
  rcases mem_cons.mp z with z|z
  ·exact absurd (Nat.lt_of_lt_of_le (Heap.lt_size q) (Nat.le_trans I.ok.bsz af)) (by rw[z];exact Nat.lt_irrefl _)
  ·rw[(ag.mem z).1] at q;cases q
 ·by_cases z:a=e
  ·subst z;rw[qqb] at q;cases q
  ·rw[cqr z] at q
   refine (I.hok a u q).stay (fun b v hb y=>hideAll_get _ y fun m=>?_) (fun b y=>?_) fun b xs y=>?_
   ·rcases mem_cons.mp m with m|m
    ·rcases hb with rfl|hb
     ·exact z m
     ·exact ae b _ hb (by intro y;cases y) m
    ·have:=ai b m
     rcases hb with rfl|hb
     ·rw[q] at this;cases this
     ·rw[hb] at this;cases this
   ·rw[cqr (ae b _ y (by intro y;cases y))];exact y
   ·rw[cqr (ae b _ y (by intro y;cases y))];exact y
 ·obtain⟨sl,z⟩:=ib.slot b o q n hb (by simp)
  obtain⟨aj,z'⟩:=ac b hb _ z
  exact⟨aj,z'⟩
 ·rw[cqr (al b o q)]
  exact ib.free b o q n hx
 ·by_cases hb:b∈frs outer
  ·obtain⟨o',z⟩:=ib.there b o q (by simp)
   obtain⟨aj,z'⟩:=ac b hb _ z
   exact⟨_,z'⟩
  ·obtain⟨o',z⟩:=ah b o q hb
   exact⟨o',x1 b o' z⟩
 ·have z:=ib.tups b xs q
  rw[cqr (ae b _ z (by intro y;cases y))];exact z
 ·have z:=ib.frzs b o u q
  rw[cqr (ae b _ z (by intro y;cases y))];exact z
 ·obtain⟨m,z⟩:=ib.tbls b ps q
  exact⟨m,by rw[cqr (ae b _ z (by intro y;cases y))];exact z⟩
 ·cases hx
  obtain⟨ob,am,_⟩:=ao.there
  exact⟨ob,am,sd.get he am⟩
end
structure Mk1 (K:Frag)(C f:Addr):Prop where
 ex:excInJ K C vErr vNew (some (.ref f))=true
 fn:isFn K (.ref f)=true
 kp:keepIn K (.ref C)=true
def tRaise1 (E:XK)(C:Addr)(sp:Sp)(t:TA):TS:=fun _ σ H=>t σ H fun vs H1=>∀a,H1 a=none->sp (.ref a::vs) (upd H1 a (exNew a C)) (fun v H2=>v=.non∧∃d,H2 a=some (exSet a C d)∧E (.ref C) (some d) (forget H2 a)) E0
def sqO {E:XK}{C:Addr}{sp:Sp}{t:TA}{D:Ends}{σ:St}{H:Hp}:(tRaise1 E C sp t D σ H)=(t σ H fun vs H1=>∀a,H1 a=none->sp (.ref a::vs) (upd H1 a (exNew a C)) (fun v H2=>v=.non∧∃d,H2 a=some (exSet a C d)∧E (.ref C) (some d) (forget H2 a)) E0):=rfl
theorem oq7 {X:Cx}{x:Str}{C f:Addr}{E:XK}{CX:CXT}{k:Nat}{fd:FuncData}{ps:List Str}{sp:Sp}{np cpos pos:Pos}{e:Expr}{t:TA}
  (hx:Raises1 X E) (hg:Gl X x) (hm:X.mg x=some (.ref C)) (M:Mk1 X.K C f) (F:FnOk X.prog X.w X.K X.mg X.base CX k f fd ps sp) (hr:Room (k+1) X.A) (hb:Binds X.K fd ps []) (hps:ps.length=2) (h0:Passes CX X E0) (hcalm:X.calm=true) (ha:PA X [e] t)
  (hdb:(x == ("__debug__" : Str))=false:=by decide) (he:starEach [e] X.env=(false,eval e X.env)::starEach [] X.env:=by rfl) (hpl:(backTo cpos (starEach [] X.env)).any (·.1)=false:=by rfl) :
  PS X (.Raise (some (.Call (.Name x np) [e] [] cpos)) none pos) (tRaise1 E C sp t):=by
 intro ac s σ H D I h
 obtain⟨cd,tl,dd,a,hC,⟨aj,ae⟩,T⟩:=excObjJ I.ok.mod.kin M.ex
 have hN:=Heap.Ns.of_isNs (isNs_of_in I.ok.mod.kin aj)
 have ae:=yqv I.ok.mod.kin hN ae
 obtain⟨oI,ai,am⟩:∃oI,X.base.get? f=some oI∧oI.cls=.type "function" := by
  have z:typeIn X.K (.ref f)=some (.type "function"):=beq_iff_eq.mp M.fn
  unfold typeIn at z
  obtain⟨o,ho,hc⟩:=Option.map_eq_some_iff.mp z
  exact⟨o,I.ok.mod.kin _ _ ho,hc⟩
 rw[arm_exec_Raise]
 have ag:=T.hasType PySem.F.excBase_ValueError.hasBase
 refine wpAny_bind (wpAny_standAt (nqZ (C:=C) (nm:=cd.name) (q:=cd.qualname) (N:=cd.ns) (bs:=cd.bases) (bm:=tl) (hdct:=cd.hasDict) (sn:=cd.slotNames) (sub:=cd.subclasses) (ab:=cd.abstract) (col:=cd.collection) (dd:=dd) (k0:=a 0) (k1:=a 1) (k2:=a 2) (k3:=a 3) (k5:=a 5) (newId:=vNew) ag (I.ok.hd hcalm) ?_))
 refine wpAny_bind (wpAny_mono (wpAny_Call_Name_kw (eqg I hg hm ?_ hdb)) (fun v s₃ h₃=>wpAny_bind (wpAny_standAt (wpAny_pure h₃))) fun _ _ x=>x)
 refine callWith_K (h₀:=X.base) I.ok.mod.kin M.kp (thn (ha cpos ac s σ H _ I h) fun us s1 ⟨vs,H1,I1,r,q⟩=>⟨I1.kIn,?_⟩) he hpl
 rw[nil_append]
 obtain⟨hh,g,dw,tk,os⟩:=s1
 have al:us.length≤sizeLine:=by
  have z:=F.len _ _ _ _ (q (hh.objs.size+1) (I1.hok.fresh (Nat.le_succ _)))
  rw[length_cons,hps] at z
  rw[<- r.length,sizeLine_eq]
  lia
 have kb:∀b o,X.base.get? b=some o->hh.get? b=some o:=fun b o e=>I1.bk b o e
 refine sq0 PySem.F.excBase_ValueError (T.keeps kb) (kb _ _ hC) (hN.keeps kb) ae (kb _ _ ai) am ?_ al
 have I2:Inv X ac σ (upd H1 (hh.objs.size+1) (exNew (hh.objs.size+1) C)) ⟨(hh.push (newTup us)).push (newExc C hh.objs.size),g,dw,tk,os⟩:=by
  refine I1.laid (t':=tk) (fun b u e=>Heap.get?_push_of_some _ (Heap.get?_push_of_some _ e)) (Nat.le_succ _) ?_
  have af:((hh.push (newTup us)).push (newExc C hh.objs.size)).get? (hh.objs.size+1)=some (newExc C hh.objs.size):=by heap_get
  exact⟨⟨_,_,af⟩,⟨_,af⟩,fun h1 h2 ⟨t,sl,z⟩ k=>⟨t,sl,k _ z⟩⟩
 have q2:=q (hh.objs.size+1) (I1.hok.fresh (Nat.le_succ _))
 have r2:Vals (V.ref (hh.objs.size+1)::vs) (Value.ref (hh.objs.size+1)::us):=.cons rfl r
 have hl:(Value.ref (hh.objs.size+1)::us).length=ps.length:=by rw[<- r2.length];exact F.len _ _ _ _ q2
 have ao:=hb ⟨(hh.push (newTup us)).push (newExc C hh.objs.size),g,dw,tk,os⟩ (Value.ref (hh.objs.size+1)::us) I2.kIn (by rw[append_nil];exact hl)
 rw[append_nil] at ao
 refine wpAny_call (codeAny_mono (F.run _ X.stack _ _ ⟨Value.ref (hh.objs.size+1)::us,[]⟩ (Value.ref (hh.objs.size+1)::us) _ _ E0 (hr.make C us []) (I2.env0.make C us []) ao r2 q2) fun r s' ad=>?_)
 cases r with
 |error ev=>exact h0 ac σ _ _ ev s' I2 ad
 |ok fl=>
  cases fl with
  |ret u=>
   obtain⟨v,H',I3,rv,ev,d,hd,hE⟩:=I2.after ad
   subst ev
   obtain⟨⟨t,sl,ah⟩,_,_⟩:=I3.hok _ _ hd
   exact⟨rv,_,t,some d,sl,rfl,I3.bk _ _ hC,ah,hx ac σ H' s' _ C d I3 hd (Nat.le_trans I1.sz (Nat.le_succ _)) hE⟩
  |next=>exact False.elim ad
  |brk=>exact False.elim ad
  |cont=>exact False.elim ad
theorem Fun.okn {P:Program}{w:World}{K:Frag}{mg:Str->Option Value}{base:Heap}{x qual:Str}{st:Stmt}{f:Addr}{fd:FuncData}{N ps:List Str}{k:Nat}{sp:Sp}(F:Fun K x qual st f fd)(S:FnScope N ps (defScope st))(len:∀vs H Q E,sp vs H Q E->vs.length=ps.length)
  (hbody:∀(cdv:Value) (A:Around) (outer:List Env) (s:Shared) (H:Hp) (vs:List V) (Q:VK) (E:XK),Room k (A.deeper (envOfC qual (defScope st) s.heap.objs.size f cdv))->sp vs H Q E ->
   ∃t,PSs (cxOf (CXN P w base) P w K mg base N qual (defScope st) f cdv A outer s H E) (defBody st) t∧t {nx:=fun _ H'=>Q .non H',rt:=Q} (start N vs) H):FnOk P w K mg base (CXN P w base) (k+1) f fd ps sp:=by
 obtain⟨oc,od,kV,doc,pm,an,cdv,ct,osl,rfl,lk,hcd⟩:=F.ex
 exact uq2 lk hcd S len fun A outer s H vs Q E hr hsp=>hbody cdv A outer s H vs Q E hr hsp
def TryB (X:Cx)(body:List Stmt)(t:XK->TS):Prop:=∀(pins:List (Addr×Obj)) (s:Shared) (σ:St) (H:Hp) (D:Ends) (Eh:XK),Inv X pins σ H s->t Eh D σ H ->
 wpAny (model X.prog X.w) X.A (execs body X.env) (SP X pins D) (fun e s'=>∃H1 s1,Inv X pins σ H1 s1∧CXN X.prog X.w X.base X.stack H1 s1 Eh e s') s
def tTryCall (sp:Sp)(t:TA):XK->TS:=fun Eh D σ H=>t σ H fun vs H1=>sp vs H1 (fun _ H2=>D.nx σ H2) Eh
def Inv.sharp {X:Cx}{pins:List (Addr×Obj)}{σ:St}{H:Hp}{s:Shared}{a:Addr}{φ ψ:Heap->Prop}(I:Inv X pins σ (upd H a (.ext φ)) s)(h:ψ s.heap)(st:∀h1 h2:Heap,ψ h1->(∀o,h1.get? a=some o->h2.get? a=some o)->ψ h2):Inv X pins σ (upd H a (.ext ψ)) s:=by
 have e:upd H a (.ext φ) a=some (.ext φ):=aqm
 obtain⟨_,ex,_⟩:=I.hok a _ e
 have:=I.write (x:=a) (e:=a) (o:=.ext ψ) (t':=s.toks) (h':=s.heap) (by rw[e];exact True.intro) (.inl rfl) (fun b u _ q=>q) ex ⟨h,ex,st⟩
 rwa [tqk] at this
def tTryN (K:Frag)(t:XK->TS)(W:Addr)(i:Nat)(tb:TS):TS:=fun D σ H=>t (fun cls d H2=>
 ∃C,cls=.ref C∧subIn K (.ref C) (.ref W)=some true∧∀a,H2 a=none->tb {nx:=fun σ' H'=>D.nx (σ'.set i none) H',rt:=D.rt} (σ.set i (some (.ref a))) (upd H2 a (exC a C d))) {nx:=D.nx,rt:=D.rt} σ H
def xq5 {K:Frag}{t:XK->TS}{W:Addr}{i:Nat}{tb:TS}{D:Ends}{σ:St}{H:Hp}:tTryN K t W i tb D σ H↔t (fun cls d H2=>
 ∃C,cls=.ref C∧subIn K (.ref C) (.ref W)=some true∧∀a,H2 a=none->tb {nx:=fun σ' H'=>D.nx (σ'.set i none) H',rt:=D.rt} (σ.set i (some (.ref a))) (upd H2 a (exC a C d))) {nx:=D.nx,rt:=D.rt} σ H:=Iff.rfl
def rqu {sp:Sp}{t:TA}{Eh:XK}{D:Ends}{σ:St}{H:Hp}:(tTryCall sp t Eh D σ H)=(t σ H fun vs H1=>sp vs H1 (fun _ H2=>D.nx σ H2) Eh):=rfl
def rIsX (K:Frag):List V->Hp->VK->Prop:=fun vs H Q=>∃a c C d b,vs=[.ref a,c]∧H a=some (exC a C d)∧ExLook K C∧KitAns K H C c b∧Q (.bl b) H
def Aqp {K:Frag}{a:Addr}{c:V}{H:Hp}{Q:VK}:rIsX K [.ref a,c] H Q↔∃C d b,H a=some (exC a C d)∧ExLook K C∧KitAns K H C c b∧Q (.bl b) H:=
 ⟨fun⟨_,_,C,d,b,e,h⟩=>by cases e;exact⟨C,d,b,h⟩,fun⟨C,d,b,h⟩=>⟨a,c,C,d,b,rfl,h⟩⟩
end L2
namespace L2
open PySem PySem.Spec PySem.W PySem.Calls PyProof.Rows PySem.Builtin PySem.Builtin.ObjectAttr
section
variable {prog:Program}{w:World}{A:Around}{E:Value->Shared->Prop}{hh:Heap}{g:Array GenState}{dr:Drawn}{t:Nat}{os:OsState}{K:Frag}{a C:Addr}{o:Obj}{od:Option Obj}{name:Str}{v:Value}
def nqP {tk:Tok}{Q:Fin->Shared->Prop}(kin:K.In hh)(I:PySem.W.InstAt hh a o C od)(hf:findObj K C od name=some (.value v))(hq:Q (.done (.ret v)) ⟨hh,g,dr,t,os⟩) :
  wpAny (model prog w) A (Builtin.«object.__getattribute__» ⟨[.ref a,.str name tk],[]⟩) Q E ⟨hh,g,dr,t,os⟩:=by
 have L0:=I.type (M:=model prog w)
 have L1:=looks_find (M:=model prog w) kin I hf
 refine wpAny_bind (wpAny_pure (wpAny_bind (wpAny_pure (wpAny_bind (L0.at (wpAny_bind (L1.at ?_)))))))
 exact wpAny_pure hq
theorem rqz {tk:Tok}{n1 ex:Bool}{Q:Value->Shared->Prop}(kin:K.In hh)(I:PySem.W.InstAt hh a o C od)(hf:findObj K C od name=some (.value v))(hv:handedIn v=true)(L:ExLook K C)(gb:Slot "ValueError" "__getattribute__" "BaseException.__getattribute__")(hq:Q v ⟨hh,g,dr,t,os⟩) :
  wpAny (model prog w) A (getAttrBy (.ref a) (.str name tk) n1 ex) Q E ⟨hh,g,dr,t,os⟩:=by
 have lt:=qqM (M:=model prog w) I.at_ I.cls;have lg:=looks_findIn (M:=model prog w) kin L.ga;have ln:=looks_findIn (M:=model prog w) kin L.na
 have f3:=gb.bind (.ref a)
 have y2:(Value.builtin "BaseException.__getattribute__" == Value.builtin "object.__getattribute__")=false:=by decide +kernel
 have y1:(onTheHeap (Value.ref C) && Value.builtin "BaseException.__getattribute__" == Value.builtin "object.__getattribute__")=false:=by rw[y2];rfl
 have y0:(ex && onTheHeap (Value.builtin "BaseException.__getattribute__"))=false:=by cases ex <;> rfl
 repeat (any_goals (first|assumption|with_reducible refine Looks.at lt ?_|with_reducible refine Looks.at lg ?_|with_reducible refine Looks.at ln ?_|rw[y0]|wp_step))
 refine codeAny_call_builtin gb.plain PySem.F.entry_bexc_ga (oqr kin I.at_ I.cls L (nqP kin I hf ?_))
 have hz:=handedOut_of hv
 repeat (any_goals (first|assumption|rw[hz]|wp_step))
end
structure ExFld (K:Frag)(C:Addr)(f:Str):Prop where
 look:ExLook K C
 na:findIn K (.ref C) f=some none
 hd:hasDictIn K C=true
def tFldE (K:Frag)(te:TE)(f:Str):TE:=fun σ H Q=>te σ H fun x H1=>∃a C d fs v,x=.ref a∧H1 a=some (exC a C (some d))∧H1 d=some (.xd fs)∧ExFld K C f∧fs.lookup f=some v∧Q v H1
def xqE {K:Frag}{te:TE}{f:Str}{σ:St}{H:Hp}{Q:VK}:(tFldE K te f σ H Q)=(te σ H fun x H1=>∃a C d fs v,x=.ref a∧H1 a=some (exC a C (some d))∧H1 d=some (.xd fs)∧ExFld K C f∧fs.lookup f=some v∧Q v H1):=rfl
theorem xqT {X:Cx}{e:Expr}{f:Str}{pos:Pos}{te:TE}(he:PE X e te)(hb:attributeBase e f X.env (eval e X.env)=eval e X.env):PE X (.Attribute e f pos) (tFldE X.K te f):=by
 intro ac s σ H Q I h
 refine uqy hb (thn (he ac s σ H _ I h) fun u s1 W'=>?_)
 obtain⟨x,H1,I1,rx,a,C,d,fs,v,ex,ea,ed,c,l,q⟩:=W'
 subst ex
 obtain rfl:u=Value.ref a:=rx
 obtain⟨⟨o,ho,hc,ag,af⟩,_,_⟩:=I1.hok a _ ea
 obtain⟨mA,hN,hR⟩:=I1.hok d _ ed
 obtain⟨od,ae,hl⟩:=oq1 hN
 have dd:=ag d rfl
 have J:PySem.W.InstAt s1.heap a o C (some od):=⟨ho,hc,af,by rw[dd];exact ae⟩
 obtain⟨v',ad,rv⟩:=RelO.some_of (v:=v) (o:=mA f) (by rw[<- l];exact hR f)
 have K1:=I1.kIn
 have fo:findObj X.K C (some od) f=some (.value v'):=findObj_own c.hd c.na rfl (by rw[hl,ad])
 have I2:=I1.tok (s1.toks+1)
 obtain⟨hh,g,dr,tk,os⟩:=s1
 unfold getAttr
 refine wpAny_bind (wpAny_mkText ?_)
 refine rqz K1 J fo (oqF rv) c.look PySem.F.attrBase_ValueError.ga ?_
 exact⟨v,H1,I2,rv,q⟩
end L2
namespace L2
open PySem PySem.Spec PySem.W PySem.Calls PyProof.Rows
theorem FunD.okn {P:Program}{w:World}{K:Frag}{mg:Str->Option Value}{base:Heap}{x qual:Str}{st:Stmt}{f T:Addr}{fd:FuncData}{N ps:List Str}{k:Nat}{sp:Sp}(F:FunD K x qual st f fd T)(S:FnScope N ps (defScope st))(len:∀vs H Q E,sp vs H Q E->vs.length=ps.length)
  (hbody:∀(cdv:Value) (A:Around) (outer:List Env) (s:Shared) (H:Hp) (vs:List V) (Q:VK) (E:XK),Room k (A.deeper (envOfC qual (defScope st) s.heap.objs.size f cdv))->sp vs H Q E ->
   ∃t,PSs (cxOf (CXN P w base) P w K mg base N qual (defScope st) f cdv A outer s H E) (defBody st) t∧t {nx:=fun _ H'=>Q .non H',rt:=Q} (start N vs) H):FnOk P w K mg base (CXN P w base) (k+1) f fd ps sp:=by
 obtain⟨oc,od,kV,doc,pm,an,cdv,ct,osl,rfl,lk,hcd⟩:=F.ex
 exact uq2 lk hcd S len fun A outer s H vs Q E hr hsp=>hbody cdv A outer s H vs Q E hr hsp
section
variable {P:Program}{w:World}{K:Frag}{mg:Str->Option Value}{base:Heap}{j k:Nat}{A:Around}{outer:List Env}{s:Shared}{H:Hp}{E:XK}
structure RoomU (k:Nat)(A:Around):Prop where
 dp:A.depth+3 * k+5 < recursionLimit
 un:A.units+16 * k+200 < cLine
structure FnU (P:Program)(w:World)(K:Frag)(mg:Str->Option Value)(base:Heap)(k:Nat)(f:Addr)(fd:FuncData)(ps:List Str)(sp:Sp):Prop where
 len:∀vs H Q E,sp vs H Q E->vs.length=ps.length
 go:∀(A:Around) (outer:List Env) (s:Shared) (H:Hp) (args:Args) (us:List Value) (vs:List V) (Q:VK) (E:XK),RoomU k A->Env0 P w K mg base A outer s H->BindsTo s fd args (ps.zip us)->Vals vs us->sp vs H Q E ->
  codeAny (model P w) A (.call (.ref f) args) (CR CX0 outer P w H s Q E) s
end
section
variable {X:Cx}
def tTryIf (tc:TT)(ta tb:XK->TS):XK->TS:=fun Eh D σ H=>tc σ H fun b H1=>if b=true then ta Eh D σ H1 else tb Eh D σ H1
def uqG {tc:TT}{ta tb:XK->TS}{Eh:XK}{D:Ends}{σ:St}{H:Hp}:(tTryIf tc ta tb Eh D σ H)=(tc σ H fun b H1=>if b=true then ta Eh D σ H1 else tb Eh D σ H1):=rfl
theorem Aqo {c:Expr}{a b:List Stmt}{tc:TT}{ta tb:XK->TS}{pos:Pos}(hc:PT X c tc)(ha:TryB X a ta)(hb:TryB X b tb)(hx0:∀e s,X.xe e s->False):TryB X [.If c a b pos] (tTryIf tc ta tb):=by
 intro ac s σ H D Eh I h
 refine wpAny_execs_cons (wpAny_If (wpAny_mono (hc ac s σ H _ I h) (fun d s1 W'=>?_) fun e s1 z=>(hx0 e s1 z).elim))
 obtain⟨H1,I1,q1⟩:=W'
 cases d with
 |true=>exact wpAny_mono (ha ac s1 σ H1 D Eh I1 q1) (fun fl s2 z=>by cases fl <;> first|exact wpAny_execs_nil z|exact z) fun _ _ z=>z
 |false=>exact wpAny_mono (hb ac s1 σ H1 D Eh I1 q1) (fun fl s2 z=>by cases fl <;> first|exact wpAny_execs_nil z|exact z) fun _ _ z=>z
def TryE (X:Cx)(e:Expr)(t:XK->TE):Prop:=∀(pins:List (Addr×Obj)) (s:Shared) (σ:St) (H:Hp) (Q:VK) (Eh:XK),Inv X pins σ H s->t Eh σ H Q ->
 wpAny (model X.prog X.w) X.A (eval e X.env) (EP X pins σ Q) (fun e s'=>∃H1 s1,Inv X pins σ H1 s1∧CXN X.prog X.w X.base X.stack H1 s1 Eh e s') s
def tTryE (sp:Sp)(t:TA):XK->TE:=fun Eh σ H Q=>t σ H fun vs H1=>sp vs H1 Q Eh
theorem sqT {k:Nat}{f:Addr}{fd:FuncData}{ps:List Str}{sp:Sp}{fx:Str}{p cpos:Pos}{e:Expr}{es:List Expr}{t:TA}
  (F:FnOk X.prog X.w X.K X.mg X.base (CXN X.prog X.w X.base) k f fd ps sp) (hr:Room k X.A) (hg:Gl X fx) (hm:X.mg fx=some (.ref f)) (hk:keepIn X.K (.ref f)=true) (hb:Binds X.K fd ps []) (ha:PA X (e::es) t)
  (hx0:∀e s,X.xe e s->False)
  (hdb:(fx == ("__debug__" : Str))=false:=by decide)
  (he:starEach (e::es) X.env=(false,eval e X.env)::starEach es X.env:=by rfl) (hpl:(backTo cpos (starEach es X.env)).any (·.1)=false:=by rfl) :
  TryE X (.Call (.Name fx p) (e::es) [] cpos) (tTryE sp t):=by
 intro ac s σ H Q Eh I h
 refine wpAny_Call_Name_kw (eqg I hg hm ?_ hdb)
 refine callWith_K (h₀:=X.base) I.ok.mod.kin hk (wpAny_mono (ha cpos ac s σ H _ I h) (fun us s1 ⟨vs,H1,I1,r,q⟩=>⟨I1.kIn,?_⟩) fun e s1 z=>(hx0 e s1 z).elim) he hpl
 have ad:(us++[]).length=ps.length:=by rw[append_nil,<- r.length];exact F.len _ _ _ _ q
 have ae:=hb s1 us I1.kIn ad
 rw[append_nil] at ae
 refine wpAny_call (codeAny_mono (F.run X.A X.stack s1 H1 ⟨us,[]⟩ us vs _ _ hr I1.env0 ae r q) fun r s2 hq=>?_)
 cases r with
 |ok fl=>
  cases fl with
  |ret u=>exact I1.after hq
  |next=>exact False.elim hq
  |brk=>exact False.elim hq
  |cont=>exact False.elim hq
 |error ev=>exact⟨H1,s1,I1,hq⟩
def tTryP (ta:TE)(te:XK->TE):XK->TE:=fun Eh σ H Q=>ta σ H fun x H1=>te Eh σ H1 fun y H2=>∀p H',H2 p=none->Same H2 H'->H' p=some (.tup [x,y])->Q (.ref p) H'
def tTryS (i:Nat)(te:XK->TE):XK->TS:=fun Eh D σ H=>te Eh σ H fun v H1=>D.nx (σ.set i (some v)) H1
theorem tqX {i:Nat}{x:Str}{e:Expr}{te:XK->TE}{pos pos':Pos}(hN:X.N.Nodup)(hi:X.N[i]?=some x)(hl:X.env.scope.names.lookup x=some .local)(he:TryE X e te)(hs:swapsWith e (some (.Name x pos')) pos.line X.env=pure false:=by rfl) :
  TryB X [.Assign [.Name x pos'] e pos] (tTryS i te):=by
 intro pins s σ H D Eh I h
 refine wpAny_execs_cons (wpAny_Assign_Name (wpAny_mono (he pins s σ H _ Eh I h) (fun v s1 W'=>?_) fun _ _ z=>z) hs)
 obtain⟨y,H1,I1,r1,q1⟩:=W'
 exact kqX I1 hN hi (.inl hl) r1 (fun s2 I2=>wpAny_execs_nil ⟨_,H1,I2,q1⟩) (.inr hl)
def xqo {sp:Sp}{t:TA}{Eh:XK}{σ:St}{H:Hp}{Q:VK}:(tTryE sp t Eh σ H Q)=(t σ H fun vs H1=>sp vs H1 Q Eh):=rfl
def yqd {ta:TE}{te:XK->TE}{Eh:XK}{σ:St}{H:Hp}{Q:VK}:(tTryP ta te Eh σ H Q)=(ta σ H fun x H1=>te Eh σ H1 fun y H2=>∀p H',H2 p=none->Same H2 H'->H' p=some (.tup [x,y])->Q (.ref p) H'):=rfl
def xqB {i:Nat}{te:XK->TE}{Eh:XK}{D:Ends}{σ:St}{H:Hp}:(tTryS i te Eh D σ H)=(te Eh σ H fun v H1=>D.nx (σ.set i (some v)) H1):=rfl
end
end L2
namespace L2
open PySem
def vqM {X:Cx}{K:W.Frag}{e:Expr}{f:Str}{pos:Pos}{te:TE}(hk:X.K=K)(he:PE X e te)(hb:attributeBase e f X.env (eval e X.env)=eval e X.env):PE X (.Attribute e f pos) (tFldE K te f):=by subst hk;exact xqT he hb
end L2
namespace Wm
open PySem L2
abbrev Rs (α:Type):=Except Nat (α×Nat)
def mp {α β:Type}(f:α->β):Rs α->Rs β
 |.ok (a,n)=>.ok (f a,n)
 |.error n=>.error n
def pre {α:Type}(c:α)(k:Nat):Rs (List α)->Rs (List α)
 |.ok (l,n)=>.ok (c::l,k+n)
 |.error n=>.error (k+n)
section
variable {α β γ:Type}
end
section
variable {t:List Nat}{h:Option (List Nat)}{d:Option Int}{w:Bool×List (List Nat)×Bool}{q:Option (List (List Nat×Option (List Nat)))}{m:Option (List Nat)}{n n1 n2 n3 n4 n5:Nat}
end
section
variable {r:List Nat}{n:Nat}
end
section
variable {r:List Nat}{n:Nat}
end
end Wm
namespace L2
open PySem PySem.Spec PySem.W PyProof.Rows
theorem qqL {K:Frag}{M:Model}{h:Heap}{a W C:Addr}{o:Obj}(kin:K.In h)(ha:h.get? a=some o)(hc:o.cls=.ref C)(cw:Catch K W)(hs:subIn K (.ref C) (.ref W)=some false):Looks M h (excMatches (.ref a) (.ref W)) false:=by
 have L1:=looks_typeIn (M:=M) kin cw.ty
 have L2:=looks_subIn (M:=M) kin cw.ex
 have L3:=looks_subIn (M:=M) kin hs
 have L4:Looks M h (typeOf (.ref a)) (.ref C):=hc▸(Looks.ld ha).andThen .now
 have L5:Looks M h (isInstance (.ref W) (.type "tuple")) false:=L1.andThen (Looks.of_pure tc_notTuple)
 have L6:Looks M h (isType (.ref W)) true:=by
  have z:=cw.cl
  unfold clsIn at z
  split at z
  ·next lk=>
   intro A' Q' E' s' k q
   unfold isType loadHead
   exact wpAny_bind (wpAny_loadPart (k _ _ (kin _ _ lk)) (wpAny_pure q))
  ·cases z
 intro A Q E s k q
 unfold excMatches isExcClass
 refine wpAny_bind (L5 A _ E s k ?_)
 simp only[Bool.false_eq_true,if_false]
 refine wpAny_bind (wpAny_pure ?_)
 refine wpAny_bind ?_
 rw[forIn_cons]
 refine wpAny_bind (wpAny_bind (wpAny_bind (L6 A _ E s k ?_)))
 simp only[if_true]
 refine L2 A _ E s k ?_
 simp only[Bool.not_true,Bool.false_eq_true,if_false]
 refine wpAny_pure ?_
 dsimp only
 rw[forIn_nil]
 refine wpAny_pure ?_
 refine wpAny_bind (L4 A _ E s k ?_)
 refine wpAny_bind ?_
 rw[forIn_cons]
 refine wpAny_bind (wpAny_bind (L3 A _ E s k ?_))
 simp only[Bool.false_eq_true,if_false]
 refine wpAny_pure ?_
 dsimp only
 rw[forIn_nil]
 exact wpAny_pure (wpAny_pure q)
def tTry2 (K:Frag)(t:XK->TS)(W1:Addr)(tb1:TS)(W2:Addr)(i:Nat)(tb2:TS):TS:=fun D σ H=>t (fun cls d H2=>
 ∃C,cls=.ref C∧((subIn K (.ref C) (.ref W1)=some true∧∀a,H2 a=none->tb1 {nx:=D.nx,rt:=D.rt} σ (upd H2 a (exC a C d))) ∨
  (subIn K (.ref C) (.ref W1)=some false∧subIn K (.ref C) (.ref W2)=some true∧∀a,H2 a=none->tb2 {nx:=fun σ' H'=>D.nx (σ'.set i none) H',rt:=D.rt} (σ.set i (some (.ref a))) (upd H2 a (exC a C d))))) {nx:=D.nx,rt:=D.rt} σ H
def xqJ {K:Frag}{t:XK->TS}{W1 W2:Addr}{tb1 tb2:TS}{i:Nat}{D:Ends}{σ:St}{H:Hp}:(tTry2 K t W1 tb1 W2 i tb2 D σ H)=(t (fun cls d H2=>
 ∃C,cls=.ref C∧((subIn K (.ref C) (.ref W1)=some true∧∀a,H2 a=none->tb1 {nx:=D.nx,rt:=D.rt} σ (upd H2 a (exC a C d))) ∨
  (subIn K (.ref C) (.ref W1)=some false∧subIn K (.ref C) (.ref W2)=some true∧∀a,H2 a=none->tb2 {nx:=fun σ' H'=>D.nx (σ'.set i none) H',rt:=D.rt} (σ.set i (some (.ref a))) (upd H2 a (exC a C d))))) {nx:=D.nx,rt:=D.rt} σ H):=rfl
section
variable {X:Cx}
def tTryD (sp:Sp)(dvs:List V)(t:TA):XK->TE:=fun Eh σ H Q=>t σ H fun vs H1=>sp (vs++dvs) H1 Q Eh
def yqc {sp:Sp}{dvs:List V}{t:TA}{Eh:XK}{σ:St}{H:Hp}{Q:VK}:(tTryD sp dvs t Eh σ H Q)=(t σ H fun vs H1=>sp (vs++dvs) H1 Q Eh):=rfl
theorem rqT {k:Nat}{f:Addr}{fd:FuncData}{ps:List Str}{sp:Sp}{fx:Str}{p cpos:Pos}{e:Expr}{es:List Expr}{t:TA}{ds:List Value}{dvs:List V}
  (F:FnOk X.prog X.w X.K X.mg X.base (CXN X.prog X.w X.base) k f fd ps sp) (hr:Room k X.A) (hg:Gl X fx) (hm:X.mg fx=some (.ref f)) (hk:keepIn X.K (.ref f)=true) (hb:Binds X.K fd ps ds) (hd:Vals dvs ds) (ha:PA X (e::es) t)
  (hx0:∀e s,X.xe e s->False)
  (hdb:(fx == ("__debug__" : Str))=false:=by decide)
  (he:starEach (e::es) X.env=(false,eval e X.env)::starEach es X.env:=by rfl) (hpl:(backTo cpos (starEach es X.env)).any (·.1)=false:=by rfl) :
  TryE X (.Call (.Name fx p) (e::es) [] cpos) (tTryD sp dvs t):=by
 intro ac s σ H Q Eh I h
 refine wpAny_Call_Name_kw (eqg I hg hm ?_ hdb)
 refine callWith_K (h₀:=X.base) I.ok.mod.kin hk (wpAny_mono (ha cpos ac s σ H _ I h) (fun us s1 ⟨vs,H1,I1,r,q⟩=>⟨I1.kIn,?_⟩) fun e s1 z=>(hx0 e s1 z).elim) he hpl
 have rr:=r.append hd
 have ad:(us++ds).length=ps.length:=by rw[<- rr.length];exact F.len _ _ _ _ q
 have ae:=hb s1 us I1.kIn ad
 refine wpAny_call (codeAny_mono (F.run X.A X.stack s1 H1 ⟨us,[]⟩ (us++ds) (vs++dvs) _ _ hr I1.env0 ae rr q) fun r s2 hq=>?_)
 cases r with
 |ok fl=>
  cases fl with
  |ret u=>exact I1.after hq
  |next=>exact False.elim hq
  |brk=>exact False.elim hq
  |cont=>exact False.elim hq
 |error ev=>exact⟨H1,s1,I1,hq⟩
end
def tTry3 (K:Frag)(t:XK->TS)(W0:Addr)(tb0:TS)(W1:Addr)(tb1:TS)(W2:Addr)(i:Nat)(tb2:TS):TS:=fun D σ H=>t (fun cls d H2=>
 ∃C,cls=.ref C∧((subIn K (.ref C) (.ref W0)=some true∧∀a,H2 a=none->tb0 {nx:=D.nx,rt:=D.rt} σ (upd H2 a (exC a C d))) ∨
  (subIn K (.ref C) (.ref W0)=some false∧((subIn K (.ref C) (.ref W1)=some true∧∀a,H2 a=none->tb1 {nx:=D.nx,rt:=D.rt} σ (upd H2 a (exC a C d))) ∨
  (subIn K (.ref C) (.ref W1)=some false∧subIn K (.ref C) (.ref W2)=some true∧∀a,H2 a=none->tb2 {nx:=fun σ' H'=>D.nx (σ'.set i none) H',rt:=D.rt} (σ.set i (some (.ref a))) (upd H2 a (exC a C d))))))) {nx:=D.nx,rt:=D.rt} σ H
theorem xqq {X:Cx}{W0 W1 W2:Addr}{x0 x1 x2 n:Str}{np0 np1 np2 hpos0 hpos1 hpos2 pos:Pos}{body:List Stmt}{c₀ b₁ b₀:Stmt}{suite0 suite1 suite:List Stmt}{t:XK->TS}{tb0 tb1 tb:TS}{i:Nat}
  (hb:TryB X body t) (hstk:X.stack=X.env::X.outer) (hf:X.env.frame=some X.env.locals) (hgW0:Gl X x0) (hmW0:X.mg x0=some (.ref W0)) (cw0:Catch X.K W0) (hgW1:Gl X x1) (hmW1:X.mg x1=some (.ref W1)) (cw1:Catch X.K W1) (hgW:Gl X x2) (hmW:X.mg x2=some (.ref W2)) (cw:Catch X.K W2)
  (nd:X.N.Nodup) (hi:X.N[i]?=some n) (hl:X.env.scope.names.lookup n=some .local) (hbd0:∀a,PSs (X.handling (.ref a)) (c₀::suite0) tb0) (hbd1:∀a,PSs (X.handling (.ref a)) (b₁::suite1) tb1) (hbd:∀a,PSs (X.handling (.ref a)) (b₀::suite) tb)
  (hdW0:(x0 == ("__debug__" : Str))=false:=by decide) (hdW1:(x1 == ("__debug__" : Str))=false:=by decide) (hdW:(x2 == ("__debug__" : Str))=false:=by decide) :
  PS X (.Try body [.ExceptHandler (some (.Name x0 np0)) none (c₀::suite0) hpos0,.ExceptHandler (some (.Name x1 np1)) none (b₁::suite1) hpos1,.ExceptHandler (some (.Name x2 np2)) (some n) (b₀::suite) hpos2] [] [] pos) (tTry3 X.K t W0 tb0 W1 tb1 W2 i tb):=by
 intro ad s σ H D I h
 refine wpAny_Try_except (wpAny_mono (hb ad s σ H _ _ I h) (fun fl s2 q=>?_) fun ev s2 ⟨H1,s1,I1,hq⟩=>?_)
 ·cases fl with
  |next=>exact wpAny_execs_nil q
  |ret u=>exact q
  |brk=>obtain⟨_,_,_,q⟩:=q;exact q.elim
  |cont=>obtain⟨_,_,_,q⟩:=q;exact q.elim
 ·obtain⟨a,tt,C,d,B,H2,rfl,⟨C',ce,ac⟩,Wn⟩:=hq
  cases ce
  have hn:H2 a=none:=Wn.f.new (h5:=s.heap) (a0:=.none)
  have fl:Heap.FlyingW B (X.env::X.outer) a (.ref C) (.ref tt) s2.heap:=hstk▸Wn.f.fly
  have fr:X.A.frames=some (X.env::X.outer):=hstk▸I1.ok.frames
  refine wpAny_mono (eq3 (kqb _ _) (wpAny_looks_onW (E:=fun _ _=>False) (Q:=fun _ s3=>∃h4,s3={ s2 with heap:=h4}∧Heap.HeldW B (X.env::X.outer) a (.ref C) (.ref tt) X.env.locals h4∧s2.heap.UpToSlots h4) fr hf fl fun h4 af ai=>⟨h4,rfl,af,ai⟩)) (fun _ s3 W'=>?_) fun _ _ z=>z.elim
  obtain⟨⟨h4,e3,af,ai⟩,ar⟩:=W'
  subst e3
  refine wpAny_mono (eq3 (dqr _ _) (wpAny_landsW (E:=fun _ _=>False) (s:={ s2 with heap:=h4}) (Q:=fun _ s3=>∃h5,s3={ s2 with heap:=h5}∧Heap.FlyingW B (X.env::X.outer) a (.ref C) (.ref tt) h5∧h4.UpToSlots h5) af fun h5 f5 ah=>⟨h5,rfl,f5,ah⟩)) (fun _ s3 W'=>?_) fun _ _ z=>z.elim
  obtain⟨⟨h5,e3,f5,ah⟩,aq⟩:=W'
  subst e3
  have I5:=I1.caught Wn.f (hstk.symm▸f5) (ai.trans ah)
  obtain⟨ob,am,al⟩:=f5.there
  refine wpAny_handleBy_cons (codeAny_handlers_test (eqg (X:=X.handling (.ref a)) (I5.handling _) hgW0 hmW0 ?_ hdW0)) (by intro q;cases q)
  rcases ac with⟨ac,hq⟩|⟨au,ac⟩
  ·refine (iqi I5.kIn am al cw0 ac) _ _ _ _ (fun b o q=>q) ?_
   refine (codeAny_handlers_suite ?_)
   refine wpAny_mono (eq3 (dqr _ _) (lands_againW (E:=fun _ _=>False) (s:={ s2 with heap:=h5}) (Q:=fun _ s3=>∃h6,s3={ s2 with heap:=h6}∧Heap.FlyingW B (X.env::X.outer) a (.ref C) (.ref tt) h6∧h5.UpToSlots h6) f5 fun h6 f6 ae=>⟨h6,rfl,f6,ae⟩)) (fun _ s3 W'=>?_) fun _ _ z=>z.elim
   obtain⟨⟨h6,e3,f6,ae⟩,aj⟩:=W'
   subst e3
   have aw:=I1.caught Wn.f (hstk.symm▸f6) ((ai.trans ah).trans ae)
   obtain⟨oe,av,ag,ap,ao,_⟩:=f6.first
   have I6:Inv X ad σ (upd H2 a (exC a C d)) {s2 with heap:=h6}:=by
    refine aw.sharp ⟨oe,ag,ap,fun y hy=>?_,by unfold notCls;rw[ao]⟩ fun h1 h2 ⟨o,z,c⟩ k=>⟨o,k o z,c⟩
    obtain⟨o2,z2,zd⟩:=Wn.dc y hy
    exact (((ar.trans aq).trans aj).get z2 ag).trans zd
   refine wpAny_mono (hbd0 a ad _ _ _ _ (I6.handling _) (hq a hn)) (fun fl s8 q8=>?_) fun e s8 z=>z.elim
   cases fl with
   |next=>
    obtain⟨σ',H',I',q'⟩:=q8
    exact⟨_,_,Inv.handled I1.ok I',q'⟩
   |ret u=>
    obtain⟨v,σ',H',I',rv,q'⟩:=q8
    exact⟨_,_,_,Inv.handled I1.ok I',rv,q'⟩
   |brk=>
    obtain⟨_,_,_,q'⟩:=q8
    exact q'.elim
   |cont=>
    obtain⟨_,_,_,q'⟩:=q8
    exact q'.elim
  ·refine (qqL I5.kIn am al cw0 au) _ _ _ _ (fun b o q=>q) ?_
   refine wpAny_handleBy_cons (codeAny_handlers_test (eqg (X:=X.handling (.ref a)) (I5.handling _) hgW1 hmW1 ?_ hdW1)) (by intro q;cases q)
   rcases ac with⟨ac,hq⟩|⟨ax,ac,hq⟩
   ·refine (iqi I5.kIn am al cw1 ac) _ _ _ _ (fun b o q=>q) ?_
    refine (codeAny_handlers_suite ?_)
    refine wpAny_mono (eq3 (dqr _ _) (lands_againW (E:=fun _ _=>False) (s:={ s2 with heap:=h5}) (Q:=fun _ s3=>∃h6,s3={ s2 with heap:=h6}∧Heap.FlyingW B (X.env::X.outer) a (.ref C) (.ref tt) h6∧h5.UpToSlots h6) f5 fun h6 f6 ae=>⟨h6,rfl,f6,ae⟩)) (fun _ s3 W'=>?_) fun _ _ z=>z.elim
    obtain⟨⟨h6,e3,f6,ae⟩,aj⟩:=W'
    subst e3
    have aw:=I1.caught Wn.f (hstk.symm▸f6) ((ai.trans ah).trans ae)
    obtain⟨oe,av,ag,ap,ao,_⟩:=f6.first
    have I6:Inv X ad σ (upd H2 a (exC a C d)) {s2 with heap:=h6}:=by
     refine aw.sharp ⟨oe,ag,ap,fun y hy=>?_,by unfold notCls;rw[ao]⟩ fun h1 h2 ⟨o,z,c⟩ k=>⟨o,k o z,c⟩
     obtain⟨o2,z2,zd⟩:=Wn.dc y hy
     exact (((ar.trans aq).trans aj).get z2 ag).trans zd
    refine wpAny_mono (hbd1 a ad _ _ _ _ (I6.handling _) (hq a hn)) (fun fl s8 q8=>?_) fun e s8 z=>z.elim
    cases fl with
    |next=>
     obtain⟨σ',H',I',q'⟩:=q8
     exact⟨_,_,Inv.handled I1.ok I',q'⟩
    |ret u=>
     obtain⟨v,σ',H',I',rv,q'⟩:=q8
     exact⟨_,_,_,Inv.handled I1.ok I',rv,q'⟩
    |brk=>
     obtain⟨_,_,_,q'⟩:=q8
     exact q'.elim
    |cont=>
     obtain⟨_,_,_,q'⟩:=q8
     exact q'.elim
   ·refine (qqL I5.kIn am al cw1 ax) _ _ _ _ (fun b o q=>q) ?_
    refine wpAny_handleBy_cons (codeAny_handlers_test (eqg (X:=X.handling (.ref a)) (I5.handling _) hgW hmW ?_ hdW)) (by intro q;cases q)
    refine (iqi I5.kIn am al cw ac) _ _ _ _ (fun b o q=>q) ?_
    refine codeAny_handlers_suite_as ?_
    refine wpAny_mono (eq3 (dqr _ _) (lands_againW (E:=fun _ _=>False) (s:={ s2 with heap:=h5}) (Q:=fun _ s3=>∃h6,s3={ s2 with heap:=h6}∧Heap.FlyingW B (X.env::X.outer) a (.ref C) (.ref tt) h6∧h5.UpToSlots h6) f5 fun h6 f6 ae=>⟨h6,rfl,f6,ae⟩)) (fun _ s3 W'=>?_) fun _ _ z=>z.elim
    obtain⟨⟨h6,e3,f6,ae⟩,aj⟩:=W'
    subst e3
    have aw:=I1.caught Wn.f (hstk.symm▸f6) ((ai.trans ah).trans ae)
    obtain⟨oe,av,ag,ap,ao,_⟩:=f6.first
    have I6:Inv X ad σ (upd H2 a (exC a C d)) {s2 with heap:=h6}:=by
     refine aw.sharp ⟨oe,ag,ap,fun y hy=>?_,by unfold notCls;rw[ao]⟩ fun h1 h2 ⟨o,z,c⟩ k=>⟨o,k o z,c⟩
     obtain⟨o2,z2,zd⟩:=Wn.dc y hy
     exact (((ar.trans aq).trans aj).get z2 ag).trans zd
    refine kqX (X:=X.handling (.ref a)) (i:=i) (v:=.ref a) (I6.handling _) nd hi (.inl hl) rfl (fun s7 I7=>?_) (.inr hl)
    refine wpAny_mono (hbd a ad s7 _ _ _ I7 (hq a hn)) (fun fl s8 q8=>?_) fun e s8 z=>z.elim
    cases fl with
    |next=>
     obtain⟨σ',H',I',q'⟩:=q8
     exact (Inv.handled I1.ok I').goes nd hi hl fun s9 I9=>⟨_,_,I9,q'⟩
    |ret u=>
     obtain⟨v,σ',H',I',rv,q'⟩:=q8
     exact (Inv.handled I1.ok I').goes nd hi hl fun s9 I9=>⟨_,_,_,I9,rv,q'⟩
    |brk=>
     obtain⟨_,_,_,q'⟩:=q8
     exact q'.elim
    |cont=>
     obtain⟨_,_,_,q'⟩:=q8
     exact q'.elim
theorem yqa {K:Frag}{t:XK->TS}{W0 W1 W2:Addr}{tb0 tb1 tb2:TS}{i:Nat}{D:Ends}{σ:St}{H:Hp}:(tTry3 K t W0 tb0 W1 tb1 W2 i tb2 D σ H)=(t (fun cls d H2=>
 ∃C,cls=.ref C∧((subIn K (.ref C) (.ref W0)=some true∧∀a,H2 a=none->tb0 {nx:=D.nx,rt:=D.rt} σ (upd H2 a (exC a C d))) ∨
  (subIn K (.ref C) (.ref W0)=some false∧((subIn K (.ref C) (.ref W1)=some true∧∀a,H2 a=none->tb1 {nx:=D.nx,rt:=D.rt} σ (upd H2 a (exC a C d))) ∨
  (subIn K (.ref C) (.ref W1)=some false∧subIn K (.ref C) (.ref W2)=some true∧∀a,H2 a=none->tb2 {nx:=fun σ' H'=>D.nx (σ'.set i none) H',rt:=D.rt} (σ.set i (some (.ref a))) (upd H2 a (exC a C d))))))) {nx:=D.nx,rt:=D.rt} σ H):=rfl
end L2
namespace L2
open PySem PySem.Spec PyProof.Rows
section
variable {X:Cx}
def rStart1:V->List V->Hp->VK->Prop:=fun x vs H Q=>∃z y:List Nat,x=.str ⟨z.toArray⟩∧vs=[.str ⟨y.toArray⟩]∧Q (.bl (decide (z.take y.length=y))) H
def rEnd1:V->List V->Hp->VK->Prop:=fun x vs H Q=>∃z y:List Nat,x=.str ⟨z.toArray⟩∧vs=[.str ⟨y.toArray⟩]∧Q (.bl (decide (z.drop (z.length - y.length)=y))) H
def zqE {i j:Nat}{ta:TA}{D:Ends}{σ:St}{H:Hp}:(tPar i j ta D σ H)=(ta σ H fun vs H1=>∃v w,vs=[v,w]∧D.nx ((σ.set i (some v)).set j (some w)) H1):=rfl
def yqu {z y:List Nat}{H:Hp}{Q:VK}:rStart1 (.str ⟨z.toArray⟩) [.str ⟨y.toArray⟩] H Q↔Q (.bl (decide (z.take y.length=y))) H:=
 ⟨fun⟨z',y',e1,e2,h⟩=>by
  injection e1 with e1;injection e1 with e1
  injection e2 with e2;injection e2 with e2;injection e2 with e2
  have h1:z=z':=by simpa using congrArg Array.toList e1
  have h2:y=y':=by simpa using congrArg Array.toList e2
  subst h1 h2;exact h,fun h=>⟨z,y,rfl,rfl,h⟩⟩
def yqr {z y:List Nat}{H:Hp}{Q:VK}:rEnd1 (.str ⟨z.toArray⟩) [.str ⟨y.toArray⟩] H Q↔Q (.bl (decide (z.drop (z.length - y.length)=y))) H:=
 ⟨fun⟨z',y',e1,e2,h⟩=>by
  injection e1 with e1;injection e1 with e1
  injection e2 with e2;injection e2 with e2;injection e2 with e2
  have h1:z=z':=by simpa using congrArg Array.toList e1
  have h2:y=y':=by simpa using congrArg Array.toList e2
  subst h1 h2;exact h,fun h=>⟨z,y,rfl,rfl,h⟩⟩
end
end L2
namespace L2
open PySem
section
variable {p:Addr}{fv:St}{tt:TT}{te:TE}{Q:VK}{H1:Hp}{K:W.Frag}
end
end L2
namespace Wm
open PySem L2
inductive Pc
 |step (s:List Nat)
 |part (h n t:List Nat)
 |num (n:List Nat)
 |word (n:List Nat)
 |gap (n:List Nat)
 |rest (n:List Nat)
abbrev tV (l:List Nat):V:=.str ⟨l.toArray⟩
def Pc.kw:Pc->Str
 |.step _=>Str.ofString "step"
 |.part ..=>Str.ofString "part"
 |.num _=>Str.ofString "number"
 |.word _=>Str.ofString "word"
 |.gap _=>Str.ofString "gap"
 |.rest _=>Str.ofString "rest"
def Pc.tl:Pc->List V
 |.step s=>[tV s]
 |.part h n t=>[tV h,tV n,tV t]
 |.num n=>[tV n]
 |.word n=>[tV n]
 |.gap n=>[tV n]
 |.rest n=>[tV n]
def Pc.vals (c:Pc):List V:=.str c.kw::c.tl
def Pc.name:Pc->List Nat
 |.step _=>[]
 |.part _ n _=>n
 |.num n=>n
 |.word n=>n
 |.gap n=>n
 |.rest n=>n
def Pc.head:Pc->List Nat|.part h _ _=>h|_=>[]
def Pc.tail:Pc->List Nat|.part _ _ t=>t|_=>[]
def Pc.isStep:Pc->Bool|.step _=>true|_=>false
def Pc.isPart:Pc->Bool|.part ..=>true|_=>false
def Pc.isNum:Pc->Bool|.num _=>true|_=>false
def Pc.isWord:Pc->Bool|.word _=>true|_=>false
def Pc.isRest:Pc->Bool|.rest _=>true|_=>false
def Pc.at0 (c:Pc):atI c.vals 0=some (.str c.kw):=aqs (j:=0) rfl
def pqZ (c:Pc):decide (c.kw=Str.ofString "step")=c.isStep:=by cases c <;> first|exact decide_eq_true rfl|exact decide_eq_false (show ¬ (Str.ofString _=Str.ofString _) by decide +kernel)
def jqO (c:Pc):decide (c.kw=Str.ofString "part")=c.isPart:=by cases c <;> first|exact decide_eq_true rfl|exact decide_eq_false (show ¬ (Str.ofString _=Str.ofString _) by decide +kernel)
def tq3 (c:Pc):decide (c.kw=Str.ofString "number")=c.isNum:=by cases c <;> first|exact decide_eq_true rfl|exact decide_eq_false (show ¬ (Str.ofString _=Str.ofString _) by decide +kernel)
def sqU (c:Pc):decide (c.kw=Str.ofString "word")=c.isWord:=by cases c <;> first|exact decide_eq_true rfl|exact decide_eq_false (show ¬ (Str.ofString _=Str.ofString _) by decide +kernel)
def nqV (c:Pc):decide (c.kw=Str.ofString "rest")=c.isRest:=by cases c <;> first|exact decide_eq_true rfl|exact decide_eq_false (show ¬ (Str.ofString _=Str.ofString _) by decide +kernel)
def isFig (c:Nat):Bool:=decide (48≤c∧c≤57)
def isSma (c:Nat):Bool:=decide (97≤c∧c≤122)
def numB (l:List Nat):Bool:=decide (1≤l.length) && decide (l.length≤60) && l.all isFig && (decide (l=[48]) || !decide (l.head?=some 48))
def wordB (l:List Nat):Bool:=decide (1≤l.length) && decide (l.length≤60) && l.all isSma
def partB (h t s:List Nat):Bool:=decide (s.take h.length=h) && (decide (s.drop (s.length - t.length)=t) && decide (h.length+t.length < s.length))
def fitsM (c:Pc)(s:List Nat):Bool:=!isDot s && match c with
 |.step w=>decide (s=w)
 |.part h _ t=>partB h t s
 |.num _=>numB s
 |.word _=>wordB s
 |.gap _=>true
 |.rest _=>true
inductive Vl
 |txt (l:List Nat)
 |int (i:Int)
 |lst (ls:List (List Nat))
def intOf (l:List Nat):Int:=(PySem.intText? ⟨l.toArray⟩).getD 0
def amid (h t s:List Nat):List Nat:=(s.drop h.length).take (s.length - t.length - h.length)
def bvM (c:Pc)(ss:List (List Nat)):Vl:=match c with
 |.rest _=>.lst ss
 |.num _=>.int (intOf (ss.headD []))
 |_=>.txt (amid c.head c.tail (ss.headD []))
def VlV (H:Hp):Vl->V->Prop
 |.txt l,v=>v=tV l
 |.int i,v=>v=.int i
 |.lst ls,v=>∃p,v=.ref p∧H p=some (.lst (ls.map tV))
theorem VlV.mono {H H':Hp}(s:Same H H'):∀{x:Vl}{v:V},VlV H x v->VlV H' x v
 |.txt _,_,h=>h
 |.int _,_,h=>h
 |.lst _,_,⟨p,e,h⟩=>⟨p,e,s _ _ h⟩
inductive PcAll (K:W.Frag)(H:Hp):List Pc->List V->Prop
 |nil:PcAll K H [] []
 |cons {c:Pc}{p:Addr}{cs:List Pc}{xs:List V}:SqT K H p c.vals->PcAll K H cs xs->PcAll K H (c::cs) (.ref p::xs)
theorem PcAll.mono {K:W.Frag}{H H':Hp}(s:Same H H'){cs:List Pc}{xs:List V}(hh:PcAll K H cs xs):PcAll K H' cs xs:=by
 induction hh with
 |nil=>exact .nil
 |cons h r ih=>exact .cons (s.tup h) ih
theorem PcAll.length {K:W.Frag}{H:Hp}{cs:List Pc}{xs:List V}(hh:PcAll K H cs xs):xs.length=cs.length:=by
 induction hh with
 |nil=>exact rfl
 |cons _ r ih=>simp[ih]
theorem PcAll.get {K:W.Frag}{H:Hp}{cs:List Pc}{xs:List V}(hh:PcAll K H cs xs){i:Nat}{v:V}(e:xs[i]?=some v):∃c p,cs[i]?=some c∧v=.ref p∧SqT K H p c.vals:=by
 induction hh generalizing i with
 |nil=>cases e
 |cons h _ ih=>
  cases i with
  |zero=>cases e;exact⟨_,_,rfl,rfl,h⟩
  |succ i=>exact ih e
def hasRest (cs:List Pc):Bool:=match cs.getLast? with
 |some c=>c.isRest
 |none=>false
def smaL:List Nat:=(Str.ofString "abcdefghijklmnopqrstuvwxyz").cps.toList
def tqG:∀c,c < 128->(c∈smaL↔isSma c=true):=by decide +kernel
def qqV:∀c∈smaL,c < 128:=by decide +kernel
def xq8 (l:List Nat):l.all isSma=l.all fun c=>decide (c∈smaL):=by
 congr 1
 funext c
 by_cases h:c < 128
 ·rw[Bool.eq_iff_iff,decide_eq_true_eq];exact (tqG c h).symm
 ·have h1:¬ c∈smaL:=fun z=>h (qqV c z)
  rw[decide_eq_false h1]
  unfold isSma
  exact decide_eq_false (by lia)
def spreadM (cs:List Pc)(n:Nat):Option (List Pc):=if hasRest cs=true∧cs.length≤n then some (cs++(List.replicate (n - cs.length) (cs.drop (cs.length - 1))).flatten) else if n=cs.length then some cs else none
def kq8 (s:List Nat):amid [] [] s=s:=by unfold amid;simp
def fitsP (cs:List Pc)(cl r:Bool)(ss:List (List Nat))(e:Bool):Bool:=match spreadM cs ss.length with
 |none=>false
 |some ds=>r && decide (e=cl) && (List.zipWith fitsM ds ss).all id
def boundM:List Pc->List (List Nat)->List (List Nat×Vl)
 |[],_=>[]
 |c::cs,ss=>(if c.isStep then [] else [(c.name,bvM c ss)])++boundM cs (ss.drop 1)
inductive BndV (H:Hp)(l:Addr):List (List Nat×Vl)->List V->Prop
 |nil:BndV H l [] []
 |cons {n:List Nat}{x:Vl}{p:Addr}{v:V}{bs:List (List Nat×Vl)}{ys:List V}:H p=some (.tup [tV n,v])->VlV H x v->(∀q,v=.ref q->q≠l)->BndV H l bs ys->BndV H l ((n,x)::bs) (.ref p::ys)
theorem BndV.mono {H H':Hp}{l:Addr}(s:Same H H'){bs:List (List Nat×Vl)}{ys:List V}(hh:BndV H l bs ys):BndV H' l bs ys:=by
 induction hh with
 |nil=>exact .nil
 |cons h v n r ih=>exact .cons (s _ _ h) (v.mono s) n ih
theorem VlV.upd {H:Hp}{l:Addr}{o:HO}:∀{x:Vl}{v:V},VlV H x v->(∀q,v=.ref q->q≠l)->VlV (L2.upd H l o) x v
 |.txt _,_,h,_=>h
 |.int _,_,h,_=>h
 |.lst _,_,⟨p,e,h⟩,hn=>⟨p,e,by rw[aqp (hn p e)];exact h⟩
theorem BndV.upd {H:Hp}{l:Addr}{o:HO}{xs:List V}(hl:H l=some (.lst xs)){bs:List (List Nat×Vl)}{ys:List V}(hh:BndV H l bs ys):BndV (L2.upd H l o) l bs ys:=by
 induction hh with
 |nil=>exact .nil
 |cons h v n r ih=>exact .cons (by rw[aqp (zq7 h hl (by intro z;cases z))];exact h) (v.upd n) n ih
theorem BndV.snoc {H:Hp}{l:Addr}{n:List Nat}{x:Vl}{p:Addr}{v:V}(h:H p=some (.tup [tV n,v]))(hv:VlV H x v)(hn:∀q,v=.ref q->q≠l){bs:List (List Nat×Vl)}{ys:List V}(hh:BndV H l bs ys):BndV H l (bs++[(n,x)]) (ys++[.ref p]):=by
 induction hh with
 |nil=>exact .cons h hv hn .nil
 |cons a b c r ih=>exact .cons a b c ih
theorem BndV.length {H:Hp}{l:Addr}{bs:List (List Nat×Vl)}{ys:List V}(hh:BndV H l bs ys):ys.length=bs.length:=by
 induction hh with
 |nil=>exact rfl
 |cons _ _ _ r ih=>simp[ih]
def mq6 {cs ds:List Pc}{n:Nat}(h:spreadM cs n=some ds):cs.length≤n∧∃es,ds=cs++es:=by
 unfold spreadM at h
 split at h
 ·rename_i hh
  cases h
  exact⟨hh.2,_,rfl⟩
 ·split at h
  ·rename_i hh
   cases h
   exact⟨by lia,[],by simp⟩
  ·cases h
theorem vqI {cs:List Pc}{cl r e:Bool}{ss:List (List Nat)}(h:fitsP cs cl r ss e=true){i:Nat}{c:Pc}(hc:cs[i]?=some c):∃s,ss[i]?=some s∧fitsM c s=true:=by
 unfold fitsP at h
 split at h
 ·cases h
 ·rename_i ds hd
  obtain⟨hl,es,rfl⟩:=mq6 hd
  have hi:=(List.getElem?_eq_some_iff.mp hc).1
  have hs:ss[i]?=some ss[i]:=List.getElem?_eq_getElem (by lia)
  refine⟨_,hs,?_⟩
  have ha:=(Bool.and_eq_true _ _▸h).2
  have hz:(List.zipWith fitsM (cs++es) ss)[i]?=some (fitsM c ss[i]):=by
   rw[List.getElem?_zipWith,List.getElem?_append_left hi,hc,hs]
  exact all_eq_true.mp ha _ (mem_of_getElem? hz)
def qq0 {n s:List Nat}(h:fitsM (.num n) s=true):1≤s.length∧s.length≤60∧s.all isFig=true:=by
 unfold fitsM numB at h
 simp only[Bool.and_eq_true,decide_eq_true_eq] at h
 exact⟨h.2.1.1.1,h.2.1.1.2,h.2.1.2⟩
def PcSz (cs:List Pc):Prop:=∀c∈cs,c.head.length≤100000∧c.tail.length≤100000
theorem rqC {cs ds:List Pc}{n:Nat}(h:spreadM cs n=some ds):ds.length=n:=by
 unfold spreadM at h
 split at h
 ·rename_i hh
  cases h
  have ac:cs≠[]:=by rintro rfl;exact absurd hh.1 (by decide)
  have hp:=length_pos_iff.mpr ac
  have e:∀m,(List.replicate m (cs.drop (cs.length - 1))).flatten.length=m:=fun m=>by
   induction m with
   |zero=>simp
   |succ m ih=>
    rw[replicate_succ,List.flatten_cons,length_append,ih,length_drop]
    lia
  rw[length_append,e]
  lia
 ·split at h
  ·rename_i hh
   cases h;lia
  ·cases h
def qqr (xs:List V)(i:Nat):cutV xs (some (i:Int)) none=xs.drop i:=by
 unfold cutV
 rw[HT.sIx_none,HT.sIx_nat]
 by_cases h:i≤xs.length
 ·rw[Nat.min_eq_left h,take_of_length_le (by rw[length_drop];lia)]
 ·rw[Nat.min_eq_right (by lia),List.drop_of_length_le (Nat.le_refl _),List.drop_of_length_le (by lia)]
  simp
def wqG (i:Int):∃c,atI smaL (i % 26)=some c∧isSma c=true:=by
 have h1:=Int.emod_nonneg i (show (26:Int)≠0 by decide)
 have h2:=Int.emod_lt_of_pos i (show (0:Int) < 26 by decide)
 have hl:smaL.length=26:=by decide +kernel
 have h3:(i % 26).toNat < smaL.length:=by lia
 refine⟨smaL[(i % 26).toNat],?_,(tqG _ (qqV _ (getElem_mem h3))).mp (getElem_mem h3)⟩
 have:=aqs (List.getElem?_eq_getElem h3)
 rw[Int.toNat_of_nonneg h1] at this
 exact this
def PcOk:Pc->Prop
 |.step s=>0 < s.length∧s.length≤100∧(∀c∈s,isSg c=true)∧isDot s=false
 |.part h _ t=>h.length≤100∧t.length≤100∧(∀c∈h,isSg c=true)∧(∀c∈t,isSg c=true)∧h++t≠[]
 |_=>True
def tqa (s:Stp):inV (sV s) [sV [],sV sStay,sV sUp]=(decide (s=[]) || isDot s):=by
 have e:∀a:Stp,eqV (sV a) (sV s)=decide (s=a):=fun a=>by
  show ((⟨a.toArray⟩:Str) == ⟨s.toArray⟩)=decide (s=a)
  rw[Bool.eq_iff_iff,beq_iff_eq,decide_eq_true_eq,dqC]
  exact⟨Eq.symm,Eq.symm⟩
 have h:=sqx s
 unfold inV at h ⊢
 rw[any_cons,h,e]
def vqg (l:List Nat)(d:Nat)(h:d≠46):isDot (l++[d])=false:=by
 refine lqS.mpr ⟨fun z=>?_,fun z=>?_⟩
 ·have:(l++[d]).getLast?=sUp.getLast?:=by rw[z]
  rw[List.getLast?_append] at this
  exact h (by simpa [sUp] using this)
 ·have:(l++[d]).getLast?=sStay.getLast?:=by rw[z]
  rw[List.getLast?_append] at this
  exact h (by simpa [sStay] using this)
def layL {n:Nat}{ds:List PyData}(h:∀d∈ds,LayAt n d):LayAt (n+1) (.list ds):=by
 obtain⟨h1,h2⟩:=layAll h
 exact⟨by simp only[PyData.canLay0,h1],by simp only[PyData.depth];lia⟩
def vlD:Vl->PyData
 |.txt l=>st l
 |.int i=>.int i
 |.lst ls=>.list (ls.map st)
theorem qq5 {H:Hp}:∀(ls:List (List Nat)),IsAll H (ls.map st) (ls.map tV)
 |[]=>.nil
 |l::ls=>.cons (.str _) (qq5 ls)
theorem VlV.is {H:Hp}:∀{x:Vl}{v:V},VlV H x v->Is H (vlD x) v
 |.txt l,_,h=>by cases h;exact .str _
 |.int i,_,h=>by cases h;exact .int _
 |.lst ls,_,⟨p,e,h⟩=>by cases e;exact .lst h (qq5 ls)
def qqj {l:List Nat}(h:l.all isSma=true):∀c∈l,isSg c=true:=fun c hc=>by
 have:=all_eq_true.mp h c hc
 simp only[isSma,decide_eq_true_eq] at this
 simp only[isSg,Bool.and_eq_true,decide_eq_true_eq,Bool.not_eq_true',decide_eq_false_iff_not]
 lia
def NmAt (X:Int)(a k:Nat)(n:List Nat):Prop:=∃d,n[a]?=some d∧atI smaL ((X+(k:Int)) % 26)=some d
def NmAt.app {X:Int}{a k:Nat}{n m:List Nat}(h:NmAt X a k n):NmAt X a k (n++m):=by
 obtain⟨d,h1,h2⟩:=h
 exact⟨d,by rw[List.getElem?_append_left (List.getElem?_eq_some_iff.mp h1).1];exact h1,h2⟩
def xqp:∀i,i < 26->∀j,j < 26->smaL[i]?=smaL[j]?->i=j:=by decide +kernel
theorem vqJ {X:Int}{a:Nat}{ns:List (List Nat)}(h:∀(k:Nat) (n:List Nat),ns[k]?=some n->NmAt X a k n)(hl:ns.length≤26):ns.Nodup:=by
 rw[List.nodup_iff_pairwise_ne,List.pairwise_iff_getElem]
 intro i j hi hj ad e
 obtain⟨d,h1,h2⟩:=h i _ (List.getElem?_eq_getElem hi)
 obtain⟨d',h3,h4⟩:=h j _ (List.getElem?_eq_getElem hj)
 rw[e,h3] at h1
 cases h1
 have m1:=Int.emod_nonneg (X+(i:Int)) (show (26:Int)≠0 by decide)
 have m2:=Int.emod_lt_of_pos (X+(i:Int)) (show (0:Int) < 26 by decide)
 have m3:=Int.emod_nonneg (X+(j:Int)) (show (26:Int)≠0 by decide)
 have m4:=Int.emod_lt_of_pos (X+(j:Int)) (show (0:Int) < 26 by decide)
 have ac:∀{z:Int},0≤z->z < 26->atI smaL z=smaL[z.toNat]?:=fun {z} z0 z1=>by
  obtain⟨n,rfl⟩:=Int.eq_ofNat_of_zero_le z0
  have hl:smaL.length=26:=by decide +kernel
  have hn:n < smaL.length:=by lia
  rw[aqs (List.getElem?_eq_getElem hn),<- List.getElem?_eq_getElem hn]
  rfl
 rw[ac m1 m2] at h2
 rw[ac m3 m4] at h4
 have:=xqp _ (by lia) _ (by lia) (h2.trans h4.symm)
 lia
inductive PcT (H:Hp):List Pc->List V->Prop
 |nil:PcT H [] []
 |cons {c:Pc}{p:Addr}{cs:List Pc}{xs:List V}:H p=some (.tup c.vals)->PcT H cs xs->PcT H (c::cs) (.ref p::xs)
theorem PcT.mono {H H':Hp}(s:SameT H H'){cs:List Pc}{xs:List V}(hh:PcT H cs xs):PcT H' cs xs:=by
 induction hh with
 |nil=>exact .nil
 |cons h r ih=>exact .cons (s _ _ h) ih
theorem PcT.all {K:W.Frag}{H:Hp}{cs:List Pc}{xs:List V}(hh:PcT H cs xs):PcAll K H cs xs:=by
 induction hh with
 |nil=>exact .nil
 |cons h r ih=>exact .cons (.of h) ih
theorem PcT.length {H:Hp}{cs:List Pc}{xs:List V}(hh:PcT H cs xs):xs.length=cs.length:=by
 induction hh with
 |nil=>exact rfl
 |cons _ r ih=>simp[ih]
theorem PcT.append {H:Hp}{ds:List Pc}{ys:List V}(h2:PcT H ds ys){cs:List Pc}{xs:List V}(hh:PcT H cs xs):PcT H (cs++ds) (xs++ys):=by
 induction hh with
 |nil=>exact h2
 |cons h r ih=>exact .cons h ih
theorem PcT.take {H:Hp}:∀{cs:List Pc}{xs:List V} (n:Nat),PcT H cs xs->PcT H (cs.take n) (xs.take n)
 |_,_,0,_=>.nil
 |_,_,_+1,.nil=>.nil
 |_,_,n+1,.cons h r=>.cons h (PcT.take n r)
theorem PcT.drop {H:Hp}:∀{cs:List Pc}{xs:List V} (n:Nat),PcT H cs xs->PcT H (cs.drop n) (xs.drop n)
 |_,_,0,h=>h
 |_,_,_+1,.nil=>.nil
 |_,_,n+1,.cons _ r=>PcT.drop n r
theorem PcT.get {H:Hp}{cs:List Pc}{xs:List V}(hh:PcT H cs xs){i:Nat}{v:V}(e:xs[i]?=some v):∃c p,cs[i]?=some c∧v=.ref p∧H p=some (.tup c.vals):=by
 induction hh generalizing i with
 |nil=>cases e
 |cons h _ ih=>
  cases i with
  |zero=>cases e;exact⟨_,_,rfl,rfl,h⟩
  |succ i=>exact ih e
def pcD (c:Pc):PyData:=.tuple (.str c.kw::match c with
 |.step s=>[st s]
 |.part h n t=>[st h,st n,st t]
 |.num n=>[st n]
 |.word n=>[st n]
 |.gap n=>[st n]
 |.rest n=>[st n])
theorem PcT.isT {H:Hp}:∀{cs:List Pc}{xs:List V},PcT H cs xs->IsTAll H (cs.map pcD) xs
 |_,_,.nil=>.nil
 |c::_,_,.cons h r=>by
  refine .cons ?_ (PcT.isT r)
  cases c with
  |step s=>exact .tup h (.cons (.str _) (.cons (.str _) .nil))
  |part a b d=>exact .tup h (.cons (.str _) (.cons (.str _) (.cons (.str _) (.cons (.str _) .nil))))
  |num n=>exact .tup h (.cons (.str _) (.cons (.str _) .nil))
  |word n=>exact .tup h (.cons (.str _) (.cons (.str _) .nil))
  |gap n=>exact .tup h (.cons (.str _) (.cons (.str _) .nil))
  |rest n=>exact .tup h (.cons (.str _) (.cons (.str _) .nil))
def PcSg (c:Pc):Prop:=(∀l,c=.step l->∀x∈l,isSg x=true)∧(∀h n t,c=.part h n t->(∀x∈h,isSg x=true)∧∀x∈t,isSg x=true)∧∀x∈c.name,isSg x=true
theorem sqL {c:Pc}(h:PcSg c):LayAt 1 (pcD c):=by
 have ad:∀s:Str,s∈[Str.ofString "step",Str.ofString "part",Str.ofString "number",Str.ofString "word",Str.ofString "gap",Str.ofString "rest"]->LayAt 0 (PyData.str s):=fun s hs=>by
  have ae:∀s∈[Str.ofString "step",Str.ofString "part",Str.ofString "number",Str.ofString "word",Str.ofString "gap",Str.ofString "rest"],∀x∈s.cps.toList,isSg x=true:=by decide +kernel
  exact LayAt.st (l:=s.cps.toList) (ae s hs)
 have ac:∀(k:Str) (l:List Nat),k∈[Str.ofString "step",Str.ofString "part",Str.ofString "number",Str.ofString "word",Str.ofString "gap",Str.ofString "rest"]->(∀x∈l,isSg x=true)->LayAt 1 (.tuple [.str k,st l]):=fun k l hk hl=>LayAt.tup (n:=0) fun d hd=>by
  simp only[mem_cons,not_mem_nil,or_false] at hd
  rcases hd with rfl|rfl
  ·exact ad k hk
  ·exact LayAt.st hl
 cases c with
 |step s=>exact ac _ s (by simp[Pc.kw]) (h.1 s rfl)
 |part a b d=>
  obtain⟨h1,h2⟩:=h.2.1 a b d rfl
  refine LayAt.tup (n:=0) fun x hx=>?_
  simp only[mem_cons,not_mem_nil,or_false] at hx
  rcases hx with rfl|rfl|rfl|rfl
  ·exact ad _ (by simp[Pc.kw])
  ·exact LayAt.st h1
  ·exact LayAt.st h.2.2
  ·exact LayAt.st h2
 |num n=>exact ac _ n (by simp[Pc.kw]) h.2.2
 |word n=>exact ac _ n (by simp[Pc.kw]) h.2.2
 |gap n=>exact ac _ n (by simp[Pc.kw]) h.2.2
 |rest n=>exact ac _ n (by simp[Pc.kw]) h.2.2
def qqT {cs:List Pc}(h:∀c∈cs,PcSg c):LayAt 2 (.list (cs.map pcD)):=layL fun d hd=>by
 obtain⟨c,hc,rfl⟩:=mem_map.mp hd
 exact sqL (h c hc)
def vqy {cs:List Pc}(h:∀c∈cs,PcSg c):LayAt 2 (.tuple (cs.map pcD)):=LayAt.tup fun d hd=>by
 obtain⟨c,hc,rfl⟩:=mem_map.mp hd
 exact sqL (h c hc)
end Wm
namespace L2
open PySem PySem.Spec PyProof.Rows
section
variable {p:Addr}{fv:St}{tt:TT}{te:TE}{Q:VK}{H H1:Hp}{K:W.Frag}
def wqj {l b:Addr}:rExtend (.ref l) [.ref b] H Q↔∃xs zs,H l=some (.lst xs)∧H b=some (.lst zs)∧xs.length+zs.length≤sizeLine∧Q .non (upd H l (.lst (xs++zs))):=by
 constructor
 ·rintro⟨l',b',xs,zs,h1,h2,h3⟩
  cases h1;cases h2
  exact⟨xs,zs,h3⟩
 ·rintro⟨xs,zs,h⟩
  exact⟨l,b,xs,zs,rfl,rfl,h⟩
def sqN {tl:TE}{fr:List Nat}{σ:St}:(tComp2 K (iList K tl) fr tt te σ H Q)=(tl σ H fun x H1=>∃a,x=.ref a∧(∃xs,SqL K H1 a xs)∧∀p,H1 p=none->CompI2 K (Itl K a) p (frV σ fr) tt te Q H1):=rfl
theorem pqH {a:Addr}{xs:List V}(f:Nat->V×V)(t:Nat->Bool)(g:Nat->V)(hxs:SqL K H1 a xs)(hlen:xs.length≤sizeLine)(hp:H1 p=none)
  (hit:∀(i:Nat) (x:V) (H':Hp),xs[i]?=some x->Same H1 H'->∃b,x=.ref b∧SqT K H' b [(f i).1,(f i).2])
  (ht:∀(i:Nat),i < xs.length->∀(H':Hp) (R:Bool->Hp->Prop),Same H1 H'->(∀H'',Same H' H''->R (t i) H'')->tt (some (f i).1::some (f i).2::fv) H' R)
  (he:∀(i:Nat),i < xs.length->t i=true->∀(H':Hp) (T:VK),Same H1 H'->(∀H'',Same H' H''->T (g i) H'')->te (some (f i).1::some (f i).2::fv) H' T)
  (hQ:∀H',Same H1 H'->H' p=some (.lst (((List.range xs.length).filter t).map g))->Q (.ref p) H'):CompI2 K (Itl K a) p fv tt te Q H1:=by
 refine⟨fun i m ys H2=>m=xs.length - i∧i≤xs.length∧ys=((List.range i).filter t).map g∧H2 p=some (.lst ys)∧Same H1 H2,⟨xs.length,by simp,Nat.zero_le _,by simp,aqm,fun b o e=>by rw[aqp (aqn e hp)];exact e⟩,?_⟩
 rintro i m ys H2 ⟨rfl,hi,rfl,ad,sm⟩
 refine⟨ad,?_⟩
 have q:=sm.seq hxs
 by_cases ac:i < xs.length
 ·refine .inr ⟨⟨xs,xs[i],q,by simp[ac]⟩,?_,fun x H3 y=>?_⟩
  ·rw[length_map]
   have:=length_filter_le t (List.range i)
   rw[length_range] at this
   lia
  ·obtain⟨rfl,y⟩:=y
   have hc:=y xs q
   obtain⟨b,rfl,hb⟩:=hit i x H3 hc sm
   refine⟨b,_,_,rfl,hb,?_⟩
   refine ht i ac _ _ sm fun H4 s4=>?_
   by_cases hf:t i=true
   ·rw[if_pos hf]
    refine he i ac hf _ _ (sm.trans s4) fun H5 s5=>⟨(s4.trans s5) _ _ ad,xs.length - (i+1),by lia,rfl,ac,?_,aqm,fun b o e=>?_⟩
    ·rw[range_succ,filter_append,map_append];simp[hf]
    ·rw[aqp (aqn e hp)];exact (s4.trans s5) _ _ (sm _ _ e)
   ·rw[if_neg hf]
    refine⟨xs.length - (i+1),by lia,rfl,ac,?_,s4 _ _ ad,sm.trans s4⟩
    rw[range_succ,filter_append,map_append];simp[hf]
 ·have e:i=xs.length:=by lia
  subst e
  exact .inl ⟨⟨xs,q,Nat.le_refl _⟩,hQ H2 sm ad⟩
theorem mqY {a:Addr}{xs:List V}(t:Nat->Bool)(g:Nat->V)(hxs:SqT K H1 a xs)(hlen:xs.length≤sizeLine)(hp:H1 p=none)
  (ht:∀(i:Nat) (x:V),xs[i]?=some x->∀(H':Hp) (R:Bool->Hp->Prop),Same H1 H'->(∀H'',Same H' H''->R (t i) H'')->tt (some x::fv) H' R)
  (he:∀(i:Nat) (x:V),xs[i]?=some x->t i=true->∀(H':Hp) (T:VK),Same H1 H'->(∀H'',Same H' H''->T (g i) H'')->te (some x::fv) H' T)
  (hQ:∀H',Same H1 H'->H' p=some (.lst (((List.range xs.length).filter t).map g))->Q (.ref p) H'):CompI (Itt K a) p fv tt te Q H1:=by
 refine⟨fun i m ys H2=>m=xs.length - i∧i≤xs.length∧ys=((List.range i).filter t).map g∧H2 p=some (.lst ys)∧Same H1 H2,⟨xs.length,by simp,Nat.zero_le _,by simp,aqm,fun b o e=>by rw[aqp (aqn e hp)];exact e⟩,?_⟩
 rintro i m ys H2 ⟨rfl,hi,rfl,ac,sm⟩
 refine⟨ac,?_⟩
 have q:=sm.tup hxs
 by_cases ad:i < xs.length
 ·refine .inr ⟨⟨xs,xs[i],q,by simp[ad]⟩,?_,fun x H3 y=>?_⟩
  ·rw[length_map]
   have:=length_filter_le t (List.range i)
   rw[length_range] at this
   lia
  ·obtain⟨rfl,y⟩:=y
   have hc:=y xs q
   refine ht i x hc _ _ sm fun H4 s4=>?_
   by_cases hf:t i=true
   ·rw[if_pos hf]
    refine he i x hc hf _ _ (sm.trans s4) fun H5 s5=>⟨(s4.trans s5) _ _ ac,xs.length - (i+1),by lia,rfl,ad,?_,aqm,fun b o e=>?_⟩
    ·rw[range_succ,filter_append,map_append];simp[hf]
    ·rw[aqp (aqn e hp)];exact (s4.trans s5) _ _ (sm _ _ e)
   ·rw[if_neg hf]
    refine⟨xs.length - (i+1),by lia,rfl,ad,?_,s4 _ _ ac,sm.trans s4⟩
    rw[range_succ,filter_append,map_append];simp[hf]
 ·have e:i=xs.length:=by lia
  subst e
  exact .inl ⟨⟨xs,q,Nat.le_refl _⟩,hQ H2 sm ac⟩
end
end L2
namespace Wm
open PySem L2
theorem hqd {α β:Type}(f:α->Bool)(g:α->β)(d:β):∀(l:List α),((List.range l.length).filter fun i=>(l[i]?.map f).getD false).map (fun i=>(l[i]?.map g).getD d)=(l.filter f).map g
 |[]=>rfl
 |a::l=>by
  have ih:=hqd f g d l
  have e2:((((List.range l.length).map Nat.succ).filter fun i=>(((a::l)[i]?).map f).getD false).map fun i=>(((a::l)[i]?).map g).getD d)=(l.filter f).map g:=by
   rw[List.filter_map,map_map,<- ih]
   rfl
  rw[length_cons,List.range_succ_eq_map,filter_cons]
  by_cases hf:f a=true
  ·rw[if_pos (by simp[hf]),map_cons,e2,filter_cons,if_pos hf,map_cons]
   rfl
  ·rw[if_neg (by simp[hf]),e2,filter_cons,if_neg hf]
def canD:PyData->Bool
 |.str s=>s.cps.toList.all isSg && decide (0 < s.length) && !isDot s.cps.toList
 |_=>false
def txD:PyData->List Nat
 |.str s=>s.cps.toList
 |_=>[]
def isValD (c:Pc)(d:PyData):Bool:=match c with
 |.rest _=>match d with
  |.list ds=>decide (0 < ds.length) && ds.all canD
  |_=>false
 |.num _=>match d with
  |.int i=>decide (0≤i∧i < 10 ^ 60)
  |_=>false
 |.word _=>match d with
  |.str s=>wordB s.cps.toList
  |_=>false
 |.step _=>false
 |.part h _ t=>ftx d && !isDot (h++txD d++t)
 |.gap _=>ftx d && !isDot (txD d)
def stpsD (c:Pc)(d:PyData):List (List Nat):=match c with
 |.rest _=>match d with
  |.list ds=>ds.map txD
  |_=>[]
 |.num _=>match d with
  |.int i=>[dg i]
  |_=>[]
 |.step s=>[s]
 |c=>[c.head++txD d++c.tail]
inductive VlsV (H:Hp):List (List Nat×PyData)->List V->Prop
 |nil:VlsV H [] []
 |cons {n:List Nat}{d:PyData}{p:Addr}{v:V}{vs:List (List Nat×PyData)}{xs:List V}:H p=some (.tup [tV n,v])->Is H d v->VlsV H vs xs->VlsV H ((n,d)::vs) (.ref p::xs)
theorem VlsV.mono {H H':Hp}(s:Same H H'){vs:List (List Nat×PyData)}{xs:List V}(hh:VlsV H vs xs):VlsV H' vs xs:=by
 induction hh with
 |nil=>exact .nil
 |cons h a r ih=>exact .cons (s _ _ h) (a.mono s) ih
theorem VlsV.length {H:Hp}{vs:List (List Nat×PyData)}{xs:List V}(hh:VlsV H vs xs):xs.length=vs.length:=by
 induction hh with
 |nil=>exact rfl
 |cons _ _ r ih=>simp[ih]
theorem VlsV.get {H:Hp}{vs:List (List Nat×PyData)}{xs:List V}(hh:VlsV H vs xs){i:Nat}{x:V}(e:xs[i]?=some x):∃n d p v,vs[i]?=some (n,d)∧x=.ref p∧H p=some (.tup [tV n,v])∧Is H d v:=by
 induction hh generalizing i with
 |nil=>cases e
 |cons h a _ ih=>
  cases i with
  |zero=>cases e;exact⟨_,_,_,_,rfl,rfl,h,a⟩
  |succ i=>exact ih e
theorem VlsV.take {H:Hp}:∀{vs:List (List Nat×PyData)}{xs:List V} (n:Nat),VlsV H vs xs->VlsV H (vs.take n) (xs.take n)
 |_,_,0,_=>.nil
 |_,_,_+1,.nil=>.nil
 |_,_,n+1,.cons h a r=>.cons h a (VlsV.take n r)
theorem VlsV.drop {H:Hp}:∀{vs:List (List Nat×PyData)}{xs:List V} (n:Nat),VlsV H vs xs->VlsV H (vs.drop n) (xs.drop n)
 |_,_,0,h=>h
 |_,_,_+1,.nil=>.nil
 |_,_,n+1,.cons _ _ r=>VlsV.drop n r
def gapsM (cs:List Pc):List (List Nat):=(cs.filter fun c=>!c.isStep).map Pc.name
def named (vs:List (List Nat×PyData))(n:List Nat):List PyData:=(vs.filter fun p=>decide (p.1=n)).map (·.2)
def fillS (c:Pc)(vs:List (List Nat×PyData)):Except (List Nat) (List (List Nat)):=match c with
 |.step s=>.ok [s]
 |c=>match named vs c.name with
  |[d]=>if isValD c d=true then .ok (stpsD c d) else .error c.name
  |_=>.error c.name
def fillF:List Pc->List (List Nat×PyData)->Except (List Nat) (List (List Nat))
 |[],_=>.ok []
 |c::cs,vs=>match fillS c vs with
  |.error n=>.error n
  |.ok a=>match fillF cs vs with
   |.error n=>.error n
   |.ok b=>.ok (a++b)
def otherM (cs:List Pc)(vs:List (List Nat×PyData)):Option (List Nat):=(vs.find? fun p=>!decide (p.1∈gapsM cs)).map (·.1)
def fillM (cs:List Pc)(vs:List (List Nat×PyData)):Except (List Nat) (List (List Nat)):=match fillF cs vs with
 |.error n=>.error n
 |.ok ss=>match otherM cs vs with
  |some n=>.error n
  |none=>.ok ss
theorem qqe {H:Hp}{vs:List (List Nat×PyData)}{xs:List V}(h:VlsV H vs xs)(n:List Nat)(g:Nat->V)(hg:∀i m d p v,vs[i]?=some (m,d)->xs[i]?=some (.ref p)->H p=some (.tup [tV m,v])->g i=v) :
  IsAll H (named vs n) (((List.range xs.length).filter fun i=>decide ((vs[i]?.map (·.1))=some n)).map g):=by
 induction h generalizing g with
 |nil=>exact .nil
 |cons hp ha r ih=>
  rename_i m d p v vs xs
  have e:List.range (V.ref p::xs).length=0::(List.range xs.length).map Nat.succ:=by rw[length_cons,List.range_succ_eq_map]
  have ac:=ih (fun i=>g (i+1)) (fun i m d p v h1 h2 h3=>hg (i+1) m d p v (by simpa using h1) (by simpa using h2) h3)
  have e2:((((List.range xs.length).map Nat.succ).filter fun i=>decide ((((m,d)::vs)[i]?.map (·.1))=some n)).map g)=(((List.range xs.length).filter fun i=>decide ((vs[i]?.map (·.1))=some n)).map fun i=>g (i+1)):=by
   rw[List.filter_map,map_map]
   rfl
  rw[e,filter_cons]
  have g0:g 0=v:=hg 0 m d p v rfl rfl hp
  by_cases hm:m=n
  ·have e3:named ((m,d)::vs) n=d::named vs n:=by unfold named;rw[filter_cons,if_pos (by simp[hm])];rfl
   rw[e3,if_pos (by simp[hm]),map_cons,e2,g0]
   exact .cons ha ac
  ·have e3:named ((m,d)::vs) n=named vs n:=by unfold named;rw[filter_cons,if_neg (by simp[hm])]
   rw[e3,if_neg (by simp[hm]),e2]
   exact ac
theorem pqm {H:Hp}:∀{ds:List PyData}{xs:List V},IsAll H ds xs->ds.all canD=true->xs=(ds.map txD).map tV
 |_,_,.nil,_=>rfl
 |d::ds,_,.cons h r,hc=>by
  rw[all_cons,Bool.and_eq_true] at hc
  have:=pqm r hc.2
  cases d with
  |str s=>cases h;rw[this];rfl
  |_=>cases hc.1
theorem sqG {c:Pc}{vs:List (List Nat×PyData)}{ss:List (List Nat)}(h:fillS c vs=.ok ss)(hs:∀p∈vs,smallD p.2=true):ss.length≤100000:=by
 have ac:∀c:Pc,(match named vs c.name with|[d]=>if isValD c d=true then (.ok (stpsD c d):Except (List Nat) (List (List Nat))) else .error c.name|_=>.error c.name)=.ok ss->(∀d,d∈named vs c.name->isValD c d=true->(stpsD c d).length≤100000)->ss.length≤100000:=fun c h hd=>by
  cases hn:named vs c.name with
  |nil=>rw[hn] at h;cases h
  |cons d r=>
   cases r with
   |nil=>
    rw[hn] at h hd
    by_cases hv:isValD c d=true
    ·have h:(if isValD c d=true then (.ok (stpsD c d):Except (List Nat) (List (List Nat))) else .error c.name)=.ok ss:=h
     rw[if_pos hv] at h
     cases h
     exact hd d (mem_singleton.mpr rfl) hv
    ·have h:(if isValD c d=true then (.ok (stpsD c d):Except (List Nat) (List (List Nat))) else .error c.name)=.ok ss:=h
     rw[if_neg hv] at h
     cases h
   |cons _ _=>rw[hn] at h;cases h
 have ad:∀n d,d∈named vs n->smallD d=true:=fun n d hd=>by
  obtain⟨p,hp,rfl⟩:=mem_map.mp hd
  exact hs p (mem_filter.mp hp).1
 cases c with
 |step s=>cases h;exact (show 1≤100000 by decide)
 |part a b e=>exact ac _ h fun d _ _=>(by show 1≤100000;decide)
 |word n=>exact ac _ h fun d _ _=>(by show 1≤100000;decide)
 |gap n=>exact ac _ h fun d _ _=>(by show 1≤100000;decide)
 |num n=>
  refine ac _ h fun d _ hv=>?_
  cases d with
  |int i=>exact (by show 1≤100000;decide)
  |_=>exact Nat.zero_le _
 |rest n=>
  refine ac _ h fun d hd _=>?_
  cases d with
  |list ds=>
   have:=ad _ _ hd
   simp only[smallD,Bool.and_eq_true,decide_eq_true_eq] at this
   show (ds.map txD).length≤100000
   rw[length_map]
   exact this.1
  |_=>exact Nat.zero_le _
theorem mqP {vs:List (List Nat×PyData)}:∀{cs:List Pc}{i:Nat}{c:Pc}{a b:List (List Nat)},cs[i]?=some c->fillF (cs.take i) vs=.ok a->fillS c vs=.ok b->fillF (cs.take (i+1)) vs=.ok (a++b)
 |[],_,_,_,_,h,_,_=>by cases h
 |d::cs,0,c,a,b,h,h1,h2=>by
  cases h;cases h1
  show fillF [d] vs=_
  unfold fillF fillF
  rw[h2]
  simp
 |d::cs,i+1,c,a,b,h,h1,h2=>by
  have h:cs[i]?=some c:=by simpa using h
  have h1:fillF (d::cs.take i) vs=.ok a:=h1
  show fillF (d::cs.take (i+1)) vs=_
  unfold fillF at h1 ⊢
  cases hd:fillS d vs with
  |error n=>rw[hd] at h1;cases h1
  |ok x=>
   rw[hd] at h1
   cases hf:fillF (cs.take i) vs with
   |error n=>rw[hf] at h1;cases h1
   |ok y=>
    rw[hf] at h1
    cases h1
    have:=mqP h hf h2
    rw[this]
    simp
theorem oqK {vs:List (List Nat×PyData)}{n:List Nat}:∀{cs:List Pc}{i:Nat}{c:Pc}{a:List (List Nat)},cs[i]?=some c->fillF (cs.take i) vs=.ok a->fillS c vs=.error n->fillF cs vs=.error n
 |[],_,_,_,h,_,_=>by cases h
 |d::cs,0,c,a,h,h1,h2=>by
  cases h
  unfold fillF
  rw[h2]
 |d::cs,i+1,c,a,h,h1,h2=>by
  have h:cs[i]?=some c:=by simpa using h
  have h1:fillF (d::cs.take i) vs=.ok a:=h1
  unfold fillF at h1 ⊢
  cases hd:fillS d vs with
  |error n=>rw[hd] at h1;cases h1
  |ok x=>
   rw[hd] at h1
   cases hf:fillF (cs.take i) vs with
   |error n=>rw[hf] at h1;cases h1
   |ok y=>
    rw[hf] at h1
    cases h1
    have:=oqK h hf h2
    rw[this]
def prAt (H:Hp)(ys:List V)(i:Nat):V×V:=match ys[i]? with
 |some (.ref p)=>match H p with
  |some (.tup [a,b])=>(a,b)
  |_=>(.non,.non)
 |_=>(.non,.non)
def qqd {H:Hp}{ys:List V}{i:Nat}{p:Addr}{a b:V}(h:ys[i]?=some (.ref p))(hp:H p=some (.tup [a,b])):prAt H ys i=(a,b):=by
 unfold prAt
 rw[h]
 dsimp only
 rw[hp]
theorem lqL {c:Pc}{vs:List (List Nat×PyData)}(h:c.isStep=false):fillS c vs=(match named vs c.name with|[d]=>if isValD c d=true then .ok (stpsD c d) else .error c.name|_=>.error c.name):=by
 cases c with
 |step s=>cases h
 |_=>rfl
end Wm
namespace L2
open PySem
def sqI {X:Cx}{K:W.Frag}(h:X.K=K):OpR X (compareOp .NotIn) (rIn K true):=by subst h;exact pqz
end L2
namespace Wm
open PySem L2
theorem qq1 {cs:List Pc}{n:List Nat}{d:PyData}:∀{ws:List (List Nat×PyData)}{i:Nat},ws[i]?=some (n,d)->(∀w∈ws.take i,w.1∈gapsM cs)->n∉gapsM cs->otherM cs ws=some n
 |[],_,h,_,_=>by cases h
 |w::ws,0,h,_,hn=>by
  cases h
  unfold otherM
  rw[List.find?_cons_of_pos (by simp[hn])]
  rfl
 |w::ws,i+1,h,hp,hn=>by
  have hw:=hp w (by simp)
  have ih:=qq1 (ws:=ws) (i:=i) (by simpa using h) (fun x hx=>hp x (by simp[hx])) hn
  unfold otherM at ih ⊢
  rw[List.find?_cons_of_neg (by simp[hw])]
  exact ih
def mqN {cs:List Pc}{ws:List (List Nat×PyData)}(h:∀w∈ws,w.1∈gapsM cs):otherM cs ws=none:=by
 unfold otherM
 rw[List.find?_eq_none.mpr (fun w hw=>by simp[h w hw])]
 rfl
def nqT (cs:List Pc):(gapsM cs).length≤cs.length:=by
 unfold gapsM
 rw[length_map]
 exact length_filter_le _ _
theorem wq1:∀(k:Nat) (ds:List Nat),ds.length=k->ds≠[]->(∀c∈ds,48≤c∧c≤57)->(ds=[48]∨ds.head?≠some 48)->(Nat.toDigits 10 (valD ds)).map Char.toNat=ds:=by
 intro k
 induction k with
 |zero=>intro ds hl hn;exact absurd (length_eq_zero_iff.mp hl) hn
 |succ k ih=>
  intro ds hl hn hd h0
  have ad:∀n,n < 10->([Nat.digitChar n].map Char.toNat)=[48+n]:=by decide +kernel
  obtain⟨as,c,rfl⟩:∃as c,ds=as++[c]:=⟨ds.dropLast,ds.getLast hn,(List.dropLast_concat_getLast hn).symm⟩
  have hc:=hd c (mem_append_right _ (mem_singleton.mpr rfl))
  rw[eqA]
  cases has:as with
  |nil=>
   have ev:valD ([]:List Nat)=0:=rfl
   rw[ev,Nat.zero_mul,Nat.zero_add,Nat.toDigits_of_lt_base (by lia),ad _ (by lia)]
   show [48+(c - 48)]=[c]
   congr 1;lia
  |cons a as'=>
   rw[<- has]
   have ae:as≠[]:=by rw[has];simp
   have ac:a≠48:=fun z=>by
    rcases h0 with h0|h0
    ·have:=congrArg List.length h0
     rw[length_append,has] at this
     simp at this
    ·refine h0 ?_
     rw[has,z];rfl
   have ha:=hd a (by rw[has];simp)
   have hp:=qqN has (by lia)
   have hi:=ih as (by rw[length_append,length_singleton] at hl;lia) ae (fun x hx=>hd x (mem_append_left _ hx)) (.inr (by rw[has];intro z;exact ac (Option.some.inj z)))
   rw[Nat.toDigits_of_base_le (by decide) (by lia),map_append]
   rw[show (valD as * 10+(c - 48)) / 10=valD as by lia,show (valD as * 10+(c - 48)) % 10=c - 48 by lia,hi,ad _ (by lia)]
   congr 1
   show [48+(c - 48)]=[c]
   congr 1;lia
theorem rq3:∀(k:Nat) (ds:List Nat),ds.length=k->(∀c∈ds,48≤c∧c≤57)->valD ds < 10 ^ k:=by
 intro k
 induction k with
 |zero=>intro ds hl _;rw[length_eq_zero_iff.mp hl];decide
 |succ k ih=>
  intro ds hl hd
  have hn:ds≠[]:=fun z=>by rw[z] at hl;cases hl
  obtain⟨as,c,rfl⟩:∃as c,ds=as++[c]:=⟨ds.dropLast,ds.getLast hn,(List.dropLast_concat_getLast hn).symm⟩
  have hc:=hd c (mem_append_right _ (mem_singleton.mpr rfl))
  have:=ih as (by rw[length_append,length_singleton] at hl;lia) (fun x hx=>hd x (mem_append_left _ hx))
  rw[eqA,Nat.pow_succ]
  lia
def oqi {l:List Nat}(h:l.all isFig=true)(h0:1≤l.length)(h1:l.length≤60):intOf l=(valD l:Int):=by
 have e:=intText_digits (x:=⟨l.toArray⟩) (fun c hc=>by
  have:=all_eq_true.mp h c (by simpa using hc)
  simpa [isFig] using this) (by intro z;simp at z;rw[z] at h0;simp at h0) (by show l.length≤4300;lia)
 unfold intOf
 rw[e]
 rfl
def yqz {l:List Nat}(h:l.all isFig=true):∀c∈l,48≤c∧c≤57:=fun c hc=>by
 have:=all_eq_true.mp h c hc
 simpa [isFig] using this
theorem vqA {s:List Nat}(h:numB s=true):dg (intOf s)=s∧0≤intOf s∧intOf s < 10 ^ 60:=by
 unfold numB at h
 simp only[Bool.and_eq_true,decide_eq_true_eq,Bool.or_eq_true,Bool.not_eq_true',decide_eq_false_iff_not] at h
 obtain⟨⟨⟨h1,h2⟩,h3⟩,h4⟩:=h
 have hf:=yqz h3
 rw[oqi h3 h1 h2]
 have hn:s≠[]:=length_pos_iff.mp h1
 refine⟨?_,by lia,?_⟩
 ·unfold dg
  rw[PySem.W.KIN.signs_num]
  exact wq1 _ s rfl hn hf h4
 ·have:=rq3 _ s rfl hf
  have ac:10 ^ s.length≤10 ^ 60:=Nat.pow_le_pow_right (by decide) h2
  have:valD s < 10 ^ 60:=Nat.lt_of_lt_of_le this ac
  exact_mod_cast this
theorem uqp {h t s:List Nat}(hp:partB h t s=true):h++amid h t s++t=s∧amid h t s≠[]:=by
 unfold partB at hp
 simp only[Bool.and_eq_true,decide_eq_true_eq] at hp
 obtain⟨h1,h2,h3⟩:=hp
 unfold amid
 constructor
 ·have e1:h++s.drop h.length=s:=by
   conv=>rhs;rw[<- take_append_drop h.length s]
   rw[h1]
  have e2:(s.drop h.length).drop (s.length - t.length - h.length)=t:=by
   rw[drop_drop,show h.length+(s.length - t.length - h.length)=s.length - t.length by lia]
   exact h2
  rw[append_assoc]
  have e3:(s.drop h.length).take (s.length - t.length - h.length)++t=s.drop h.length:=by
   conv=>rhs;rw[<- take_append_drop (s.length - t.length - h.length) (s.drop h.length)]
   rw[e2]
  rw[e3,e1]
 ·intro z
  have:=congrArg List.length z
  rw[length_take,length_drop] at this
  simp at this
  lia
def SgT (s:List Nat):Prop:=s≠[]∧∀c∈s,isSg c=true
def sq7 {s:List Nat}(h:SgT s):ftx (st s)=true:=by
 simp only[ftx,uqe,Bool.and_eq_true,decide_eq_true_eq]
 exact⟨all_eq_true.mpr h.2,length_pos_iff.mpr h.1⟩
theorem vq8 {c:Pc}{s:List Nat}{r:List (List Nat)}(hs:c.isStep=false)(hr:c.isRest=false)(hf:fitsM c s=true)(hg:SgT s):isValD c (vlD (bvM c (s::r)))=true∧stpsD c (vlD (bvM c (s::r)))=[s]:=by
 unfold fitsM at hf
 rw[Bool.and_eq_true,Bool.not_eq_true'] at hf
 obtain⟨hd,hf⟩:=hf
 cases c with
 |step w=>cases hs
 |rest n=>cases hr
 |part h n t=>
  obtain⟨e,ne⟩:=uqp hf
  have ea:vlD (bvM (.part h n t) (s::r))=st (amid h t s):=rfl
  rw[ea]
  refine⟨?_,?_⟩
  ·show (ftx (st (amid h t s)) && !isDot (h++amid h t s++t))=true
   rw[e,hd,sq7 ⟨ne,fun c hc=>hg.2 c (by rw[<- e];simp[hc])⟩]
   rfl
  ·show [h++amid h t s++t]=[s]
   rw[e]
 |num n=>
  obtain⟨h1,h2,h3⟩:=vqA hf
  have ea:vlD (bvM (.num n) (s::r))=.int (intOf s):=rfl
  rw[ea]
  exact⟨decide_eq_true ⟨h2,h3⟩,by show [dg (intOf s)]=[s];rw[h1]⟩
 |word n=>
  have ea:vlD (bvM (.word n) (s::r))=st s:=by show st (amid [] [] s)=st s;rw[kq8]
  rw[ea]
  exact⟨hf,by show [[]++s++[]]=[s];simp⟩
 |gap n=>
  have ea:vlD (bvM (.gap n) (s::r))=st s:=by show st (amid [] [] s)=st s;rw[kq8]
  rw[ea]
  refine⟨?_,by show [[]++s++[]]=[s];simp⟩
  show (ftx (st s) && !isDot s)=true
  rw[sq7 hg,hd];rfl
def yqF {s:List Nat}(h:SgT s)(hd:isDot s=false):canD (st s)=true:=by
 show (s.all isSg && decide (0 < (⟨s.toArray⟩:Str).length) && !isDot s)=true
 rw[all_eq_true.mpr h.2,decide_eq_true (show 0 < (⟨s.toArray⟩:Str).length by rw[aqT];exact length_pos_iff.mpr h.1),hd]
 rfl
theorem sqD {n:List Nat}{ss:List (List Nat)}(hn:ss≠[])(h:∀s∈ss,SgT s∧isDot s=false):isValD (.rest n) (vlD (bvM (.rest n) ss))=true∧stpsD (.rest n) (vlD (bvM (.rest n) ss))=ss:=by
 have ea:vlD (bvM (.rest n) ss)=.list (ss.map st):=rfl
 rw[ea]
 refine⟨?_,?_⟩
 ·show (decide (0 < (ss.map st).length) && (ss.map st).all canD)=true
  rw[decide_eq_true (by rw[length_map];exact length_pos_iff.mpr hn),Bool.true_and]
  refine all_eq_true.mpr fun d hd=>?_
  obtain⟨s,hs,rfl⟩:=mem_map.mp hd
  exact yqF (h s hs).1 (h s hs).2
 ·show (ss.map st).map txD=ss
  rw[map_map]
  conv=>rhs;rw[<- List.map_id ss]
  rfl
def mqK {ws:List (List Nat×PyData)}{n:List Nat}(h:n∉ws.map (·.1)):named ws n=[]:=by
 unfold named
 rw[List.filter_eq_nil_iff.mpr fun p hp=>by
  simp only[decide_eq_true_eq]
  exact fun z=>h (by rw[<- z];exact mem_map_of_mem hp)]
 rfl
theorem lqh:∀{ws:List (List Nat×PyData)}{n:List Nat}{d:PyData},(ws.map (·.1)).Nodup->(n,d)∈ws->named ws n=[d]
 |[],_,_,_,h=>by cases h
 |w::ws,n,d,hn,h=>by
  rw[map_cons,nodup_cons] at hn
  rcases mem_cons.mp h with rfl|h
  ·have:named ((n,d)::ws) n=d::named ws n:=by unfold named;rw[filter_cons,if_pos (by simp)];rfl
   rw[this,mqK hn.1]
  ·have hne:w.1≠n:=fun z=>hn.1 (by rw[z];exact mem_map_of_mem (f:=(·.1)) h)
   have:named (w::ws) n=named ws n:=by unfold named;rw[filter_cons,if_neg (by simp[hne])]
   rw[this]
   exact lqh hn.2 h
theorem nqc {ns:List (List Nat)}(hn:ns.Nodup):∀{cs:List Pc} (k:Nat),(∀(i:Nat) (c:Pc),cs[i]?=some c->c.isStep=false->ns[k+i]?=some c.name)->(gapsM cs).Nodup∧∀n∈gapsM cs,∃j,k≤j∧ns[j]?=some n
 |[],_,_=>⟨List.nodup_nil,fun n h=>by cases h⟩
 |c::cs,k,h=>by
  obtain⟨i1,i2⟩:=nqc hn (cs:=cs) (k+1) fun i d hd hs=>by
   have:=h (i+1) d (by simpa using hd) hs
   rw[<- this];congr 1;lia
  have e:gapsM (c::cs)=(if c.isStep then [] else [c.name])++gapsM cs:=by
   unfold gapsM
   rw[filter_cons]
   cases c.isStep <;> rfl
  rw[e]
  cases hs:c.isStep with
  |true=>exact⟨i1,fun n ac=>by obtain⟨j,h1,h2⟩:=i2 n ac;exact⟨j,by lia,h2⟩⟩
  |false=>
   have h0:ns[k]?=some c.name:=h 0 c rfl hs
   refine⟨?_,fun n ac=>?_⟩
   ·show (c.name::gapsM cs).Nodup
    rw[nodup_cons]
    refine⟨fun z=>?_,i1⟩
    obtain⟨j,h1,h2⟩:=i2 _ z
    obtain⟨a1,a2⟩:=List.getElem?_eq_some_iff.mp h0
    obtain⟨b1,b2⟩:=List.getElem?_eq_some_iff.mp h2
    rw[List.nodup_iff_pairwise_ne,List.pairwise_iff_getElem] at hn
    exact hn k j a1 b1 (by lia) (a2.trans b2.symm)
   ·rcases mem_cons.mp (show n∈c.name::gapsM cs from ac) with rfl|z
    ·exact⟨k,Nat.le_refl _,h0⟩
    ·obtain⟨j,h1,h2⟩:=i2 n z;exact⟨j,by lia,h2⟩
theorem mqS {ws:List (List Nat×PyData)}:∀{cs:List Pc}{ss:List (List Nat)},(∀(i:Nat) (c:Pc),cs[i]?=some c->∃s,ss[i]?=some s∧fitsM c s=true)->(∀(i:Nat) (c:Pc),cs[i]?=some c->c.isRest=true->i+1=cs.length)->((∀c∈cs,c.isRest=false)->ss.length=cs.length)->(∀s∈ss,SgT s∧isDot s=false)->(∀n x,(n,x)∈boundM cs ss->named ws n=[vlD x])->fillF cs ws=.ok ss
 |[],ss,_,_,hl,_,_=>by
  have:=hl (fun c hc=>by cases hc)
  rw[length_nil] at this
  rw[length_eq_zero_iff.mp this]
  rfl
 |c::cs,ss,hf,hr,hl,hg,hb=>by
  obtain⟨s,h0,hfs⟩:=hf 0 c rfl
  cases ss with
  |nil=>cases h0
  |cons s' ss=>
   cases h0
   have hbe:boundM (c::cs) (s::ss)=(if c.isStep then [] else [(c.name,bvM c (s::ss))])++boundM cs ss:=rfl
   by_cases hcr:c.isRest=true
   ·have hn:cs=[]:=length_eq_zero_iff.mp (by have:=hr 0 c rfl hcr;simp only[length_cons] at this;lia)
    subst hn
    cases c with
    |rest n=>
     have hb1:=hb n (bvM (.rest n) (s::ss)) (by rw[hbe];exact mem_append_left _ (mem_singleton.mpr rfl))
     obtain⟨r1,r2⟩:=sqD (n:=n) (ss:=s::ss) (by simp) hg
     have e:fillS (.rest n) ws=.ok (s::ss):=by
      show (match named ws n with|[d]=>if isValD (.rest n) d=true then (.ok (stpsD (.rest n) d):Except (List Nat) (List (List Nat))) else .error n|_=>.error n)=_
      rw[hb1]
      show (if isValD (.rest n) _=true then _ else _)=_
      rw[if_pos r1,r2]
     unfold fillF fillF
     rw[e]
     simp
    |_=>cases hcr
   ·have ih:=mqS (ws:=ws) (cs:=cs) (ss:=ss) (fun i d hd=>by
     obtain⟨z,h1,h2⟩:=hf (i+1) d (by simpa using hd)
     exact⟨z,by simpa using h1,h2⟩) (fun i d hd ac=>by
     have:=hr (i+1) d (by simpa using hd) ac
     simp only[length_cons] at this;lia) (fun h=>by
     have:=hl (fun d hd=>by
      rcases mem_cons.mp hd with rfl|hd
      ·simpa using hcr
      ·exact h d hd)
     simp only[length_cons] at this;lia) (fun z hz=>hg z (mem_cons_of_mem _ hz)) (fun n x hx=>hb n x (by rw[hbe];exact mem_append_right _ hx))
    have e:fillS c ws=.ok [s]:=by
     cases hst:c.isStep with
     |true=>
      cases c with
      |step w=>
       unfold fitsM at hfs
       rw[Bool.and_eq_true] at hfs
       have:s=w:=of_decide_eq_true hfs.2
       rw[this]
       rfl
      |_=>cases hst
     |false=>
      rw[lqL hst]
      have hb1:=hb c.name (bvM c (s::ss)) (by rw[hbe,hst];exact mem_append_left _ (mem_singleton.mpr rfl))
      rw[hb1]
      obtain⟨r1,r2⟩:=vq8 (r:=ss) hst (by simpa using hcr) hfs (hg s (mem_cons_self ..)).1
      show (if isValD c _=true then _ else _)=_
      rw[if_pos r1,r2]
    unfold fillF
    rw[e,ih]
    rfl
theorem sq9 {cs:List Pc}{cl r e:Bool}{ss:List (List Nat)}(h:fitsP cs cl r ss e=true):r=true∧e=cl∧((∀c∈cs,c.isRest=false)->ss.length=cs.length)∧cs.length≤ss.length∧∀s∈ss,isDot s=false:=by
 unfold fitsP at h
 cases hs:spreadM cs ss.length with
 |none=>rw[hs] at h;cases h
 |some ds=>
  rw[hs] at h
  have h:(r && decide (e=cl) && (List.zipWith fitsM ds ss).all id)=true:=h
  rw[Bool.and_eq_true,Bool.and_eq_true,decide_eq_true_eq] at h
  have hdl:=rqC hs
  refine⟨h.1.1,h.1.2,fun hn=>?_,(mq6 hs).1,fun s ac=>?_⟩
  ·unfold spreadM at hs
   by_cases hr:hasRest cs=true∧cs.length≤ss.length
   ·exfalso
    have hh:=hr.1
    unfold hasRest at hh
    cases hg:cs.getLast? with
    |none=>rw[hg] at hh;cases hh
    |some c=>
     rw[hg] at hh
     have hc:=hn c (List.mem_of_getLast? hg)
     have hh:c.isRest=true:=hh
     rw[hc] at hh
     cases hh
   ·rw[if_neg hr] at hs
    by_cases hl:ss.length=cs.length
    ·exact hl
    ·rw[if_neg hl] at hs;cases hs
  ·obtain⟨i,hi⟩:=List.mem_iff_getElem?.mp ac
   have hil:=(List.getElem?_eq_some_iff.mp hi).1
   have hd:ds[i]?=some ds[i]:=List.getElem?_eq_getElem (by lia)
   have hz:fitsM ds[i] s∈List.zipWith fitsM ds ss:=by
    rw[List.mem_iff_getElem?]
    exact⟨i,by rw[List.getElem?_zipWith,hd,hi]⟩
   have:=all_eq_true.mp h.2 _ hz
   have this:fitsM ds[i] s=true:=this
   unfold fitsM at this
   rw[Bool.and_eq_true,Bool.not_eq_true'] at this
   exact this.1
def zqn {c:Nat}(h:48≤c∧c≤57):isSg c=true:=by
 simp only[isSg,Bool.and_eq_true,decide_eq_true_eq,Bool.not_eq_true',decide_eq_false_iff_not]
 lia
theorem yqT {k:Nat}:∀{n:Nat},0 < k->n < 10 ^ k->(Nat.toDigits 10 n).length≤k:=by
 induction k with
 |zero=>intro n h;cases h
 |succ k ih=>
  intro n _ h
  by_cases hn:n < 10
  ·rw[Nat.toDigits_of_lt_base hn];simp
  ·rw[Nat.toDigits_of_base_le (by decide) (by lia),length_append,length_singleton]
   cases k with
   |zero=>lia
   |succ k=>
    have:=ih (n:=n / 10) (by lia) (by rw[Nat.pow_succ] at h;lia)
    lia
def tqn {n:Nat}(h:n < 10 ^ 60):(Nat.toDigits 10 n).length≤60:=yqT (by decide) h
theorem qqS (d:Nat):∀(n:Nat) (a:Array Nat),((List.replicate n #[d]).foldl (·++·) a).toList=a.toList++List.replicate n d
 |0,a=>by simp
 |n+1,a=>by
  rw[replicate_succ,List.foldl_cons,qqS d n,replicate_succ]
  simp
theorem uqU (d m:Nat):Txt.mul (⟨#[d]⟩:Str) (m:Int)=⟨(List.replicate m d).toArray⟩:=by
 unfold Txt.mul
 by_cases h:(m:Int) < 1
 ·rw[if_pos h]
  have:m=0:=by lia
  subst this
  rfl
 ·rw[if_neg h]
  by_cases h1:m=1
  ·subst h1
   rw[if_pos (by rfl)]
   rfl
  ·rw[if_neg (by
    have e:(⟨#[d]⟩:Str).length=1:=rfl
    rw[e,Bool.or_eq_true]
    rintro (z|z)
    ·exact h1 (by have:=eq_of_beq z;lia)
    ·cases z)]
   have e:=qqS d m #[]
   rw[Int.toNat_natCast]
   congr 1
   rw[<- Array.toList_inj,e]
   simp
def tqK (d m:Nat)(h:m≤60):MulOk (⟨#[d]⟩:Str) (m:Int):=by
 refine⟨?_,fun h1 _=>?_,fun _ _=>notTooLong ?_⟩
 ·rw[decide_eq_false (by lia),decide_eq_false (by lia)];rfl
 ·show ¬ (1:Int) > _
  have:(1:Int)≤(2 ^ 63 - 1) / (m:Int):=by
   rw[Int.le_ediv_iff_mul_le (by lia)]
   lia
  lia
 ·show 1 * _≤_
  have:((m:Int)).toNat=m:=by lia
  rw[this]
  exact Nat.le_trans (show 1 * m≤100 by lia) (by decide)
theorem iqd:∀{ds:List PyData},(∀d∈ds,PyData.eqv d d=true)->PyData.eqvAll ds ds=true
 |[],_=>by simp[PyData.eqvAll]
 |d::ds,h=>by
  have h1:=h d (mem_cons_self ..)
  have h2:=iqd (ds:=ds) fun x hx=>h x (mem_cons_of_mem _ hx)
  simp[PyData.eqvAll,h1,h2]
def nq5 {ds:List PyData}(h:∀d∈ds,PyData.eqv d d=true):PyData.eqv (.list ds) (.list ds)=true:=by
 simp[PyData.eqv,iqd h]
def jqG {ds:List PyData}(h:∀d∈ds,PyData.eqv d d=true):PyData.eqv (.tuple ds) (.tuple ds)=true:=by
 simp[PyData.eqv,iqd h]
def kqp (l:List Nat):PyData.eqv (st l) (st l)=true:=by simp[PyData.eqv]
def xqm (i:Int):PyData.eqv (.int i) (.int i)=true:=by simp[PyData.eqv]
def vqD (b:Bool):PyData.eqv (.bool b) (.bool b)=true:=by simp[PyData.eqv]
theorem zqe (x:Vl):PyData.eqv (vlD x) (vlD x)=true:=by
 cases x with
 |txt l=>exact kqp l
 |int i=>exact xqm i
 |lst ls=>exact nq5 fun d hd=>by obtain⟨l,_,rfl⟩:=mem_map.mp hd;exact kqp l
def VlOk:Vl->Prop
 |.txt l=>(∀c∈l,isSg c=true)∧l.length≤20000
 |.int _=>True
 |.lst ls=>(∀l∈ls,(∀c∈l,isSg c=true)∧l.length≤20000)∧ls.length≤20000
theorem VlOk.lay {x:Vl}(h:VlOk x):LayAt 1 (vlD x):=by
 cases x with
 |txt l=>exact (LayAt.st h.1).le (by decide)
 |int i=>exact (LayAt.iD (o:=some i)).le (by decide)
 |lst ls=>exact layL (n:=0) fun d hd=>by obtain⟨l,hl,rfl⟩:=mem_map.mp hd;exact LayAt.st (h.1 l hl).1
theorem VlOk.small {x:Vl}(h:VlOk x):smallD (vlD x)=true:=by
 cases x with
 |txt l=>simp only[vlD,smallD,uqe,decide_eq_true_eq];have:=h.2;lia
 |int i=>rfl
 |lst ls=>exact pqr (by rw[length_map];have:=h.2;lia) (lqK fun d hd=>by
   obtain⟨l,hl,rfl⟩:=mem_map.mp hd
   simp only[smallD,uqe,decide_eq_true_eq];have:=(h.1 l hl).2;lia)
theorem BndV.vls {H:Hp}{l:Addr}{bs:List (List Nat×Vl)}{ys:List V}(hh:BndV H l bs ys):VlsV H (bs.map fun p=>(p.1,vlD p.2)) ys:=by
 induction hh with
 |nil=>exact .nil
 |cons a b _ r ih=>exact .cons a b.is ih
theorem VlsV.isAll {H:Hp}{vs:List (List Nat×PyData)}{xs:List V}(hh:VlsV H vs xs):IsAll H (vs.map fun p=>.tuple [st p.1,p.2]) xs:=by
 induction hh with
 |nil=>exact .nil
 |cons h a r ih=>exact .cons (.tup h (.cons (.str _) (.cons a .nil))) ih
def bndD (bs:List (List Nat×Vl)):PyData:=.list ((bs.map fun p=>(p.1,vlD p.2)).map fun p=>.tuple [st p.1,p.2])
def rqd {bs:List (List Nat×Vl)}(hn:∀p∈bs,∀c∈p.1,isSg c=true)(hv:∀p∈bs,VlOk p.2):LayAt 3 (bndD bs):=layL fun d hd=>by
 obtain⟨q,hq,rfl⟩:=mem_map.mp hd
 obtain⟨p,hp,rfl⟩:=mem_map.mp hq
 refine LayAt.tup (n:=1) fun e he=>?_
 simp only[mem_cons,not_mem_nil,or_false] at he
 rcases he with rfl|rfl
 ·exact (LayAt.st (hn p hp)).le (by decide)
 ·exact (hv p hp).lay
def vqh (bs:List (List Nat×Vl)):PyData.eqv (bndD bs) (bndD bs)=true:=nq5 fun d hd=>by
 obtain⟨q,hq,rfl⟩:=mem_map.mp hd
 obtain⟨p,hp,rfl⟩:=mem_map.mp hq
 refine jqG fun e he=>?_
 simp only[mem_cons,not_mem_nil,or_false] at he
 rcases he with rfl|rfl
 ·exact kqp _
 ·exact zqe _
def kq9 (xs:List V)(i:Nat):cutV xs none (some (i:Int))=xs.take i:=by
 unfold cutV
 rw[HT.sIx_none,HT.sIx_nat,drop_zero,Nat.sub_zero]
 by_cases h:i≤xs.length
 ·rw[Nat.min_eq_left h]
 ·rw[Nat.min_eq_right (by lia),take_length,take_of_length_le (by lia)]
def trS:List Nat:=[97,98,48,49]
def trialsM (h t:List Nat):List (List Nat):=trS.map fun c=>h++[c]++t
def fitT (c:Pc):List (List Nat):=(match c with|.step w=>[w]|c=>trialsM c.head c.tail).filter (fitsM c)
def stepBey (c d:Pc):Option (List Nat):=(fitT c).find? fun s=>!fitsM d s
def vq3 {c:Pc}{s:List Nat}(h:fitsM c s=true):isDot s=false:=by
 unfold fitsM at h
 rw[Bool.and_eq_true] at h
 simpa using h.1
def tqD {c:Pc}{s:List Nat}(h:c.isRest=true)(hs:isDot s=false):fitsM c s=true:=by
 cases c <;> first|cases h|skip
 show (!isDot s && true)=true
 rw[hs];rfl
theorem rqP {ds ts:List Pc}{n:Nat}(h:spreadM ds n=some ts):ts.length=n∧∀i,i < n->(i < ds.length∧ts[i]?=ds[i]?)∨(ds.length≤i∧hasRest ds=true∧∃c,ts[i]?=some c∧c.isRest=true∧c∈ds):=by
 unfold spreadM at h
 by_cases hr:hasRest ds=true∧ds.length≤n
 ·rw[if_pos hr] at h
  cases h
  have ac:ds≠[]:=fun e=>by subst e;exact absurd hr.1 (by decide)
  obtain⟨c,hc⟩:∃c,ds.getLast?=some c:=⟨_,List.getLast?_eq_some_getLast ac⟩
  have af:c.isRest=true:=by
   have:=hr.1
   unfold hasRest at this
   rw[hc] at this
   exact this
  have hd:ds.drop (ds.length - 1)=[c]:=by
   rw[List.getLast?_eq_getElem?] at hc
   have hl:=length_pos_iff.mpr ac
   obtain⟨h1,h2⟩:=List.getElem?_eq_some_iff.mp hc
   rw[List.drop_eq_getElem_cons h1,h2,drop_eq_nil_of_le (by lia)]
  rw[hd]
  have ae:∀k:Nat,(List.replicate k [c]).flatten=List.replicate k c:=fun k=>by
   induction k with
   |zero=>rfl
   |succ k ih=>rw[replicate_succ,List.flatten_cons,ih];rfl
  rw[ae]
  refine⟨by rw[length_append,length_replicate];lia,fun i hi=>?_⟩
  by_cases ad:i < ds.length
  ·exact .inl ⟨ad,List.getElem?_append_left ad⟩
  ·refine .inr ⟨by lia,hr.1,c,?_,af,List.mem_of_getLast? hc⟩
   rw[List.getElem?_append_right (by lia),List.getElem?_replicate,if_pos (by lia)]
 ·rw[if_neg hr] at h
  by_cases e:n=ds.length
  ·rw[if_pos e] at h
   cases h
   exact⟨e.symm,fun i hi=>.inl ⟨by lia,rfl⟩⟩
  ·rw[if_neg e] at h
   cases h
def qqg {ds:List Pc}{n:Nat}(h:(hasRest ds=true∧ds.length≤n)∨n=ds.length):∃ts,spreadM ds n=some ts:=by
 unfold spreadM
 by_cases hr:hasRest ds=true∧ds.length≤n
 ·rw[if_pos hr];exact⟨_,rfl⟩
 ·rw[if_neg hr]
  rcases h with h|h
  ·exact absurd h hr
  ·rw[if_pos h];exact⟨_,rfl⟩
theorem qql:∀{ms:List Pc}{ss:List (List Nat)},(List.zipWith fitsM ms ss).all id=true↔∀(i:Nat) (c:Pc) (s:List Nat),ms[i]?=some c->ss[i]?=some s->fitsM c s=true
 |[],ss=>⟨fun _ i c s h=>by simp at h,fun _=>rfl⟩
 |c::ms,[]=>⟨fun _ i c s _ h=>by simp at h,fun _=>rfl⟩
 |c::ms,s::ss=>by
  rw[List.zipWith_cons_cons,all_cons,Bool.and_eq_true,qql]
  constructor
  ·rintro⟨h1,h2⟩ i c' s' hc hs
   cases i with
   |zero=>cases hc;cases hs;exact h1
   |succ i=>exact h2 i c' s' hc hs
  ·intro h
   exact⟨h 0 c s rfl rfl,fun i c' s' hc hs=>h (i+1) c' s' hc hs⟩
theorem sqz {cs:List Pc}{cl r e:Bool}{ss:List (List Nat)}:fitsP cs cl r ss e=true↔∃ms,spreadM cs ss.length=some ms∧r=true∧e=cl∧∀(i:Nat) (c:Pc) (s:List Nat),ms[i]?=some c->ss[i]?=some s->fitsM c s=true:=by
 unfold fitsP
 cases h:spreadM cs ss.length with
 |none=>exact⟨fun h=>(by cases h),fun⟨_,h,_⟩=>(by cases h)⟩
 |some ms=>
  show (r && decide (e=cl) && _)=true↔_
  rw[Bool.and_eq_true,Bool.and_eq_true,decide_eq_true_eq,qql]
  exact⟨fun⟨⟨a,b⟩,c⟩=>⟨ms,rfl,a,b,c⟩,fun⟨ac,e',a,b,c⟩=>by cases e';exact⟨⟨a,b⟩,c⟩⟩
end Wm
namespace L2
open PySem
section
variable {p:Addr}{fv:St}{tt:TT}{te:TE}{Q:VK}{H1:Hp}
end
end L2
namespace Wm
open PySem L2
def PtAt (H:Hp)(cs:List Pc)(e:Bool)(p:Addr):Prop:=∃(q:Addr) (xs:List V),H p=some (.tup [.ref q,.bl e])∧H q=some (.tup xs)∧PcT H cs xs
def PtAt.mono {H H':Hp}{cs:List Pc}{e:Bool}{p:Addr}(s:SameT H H')(h:PtAt H cs e p):PtAt H' cs e p:=by
 obtain⟨q,xs,h1,h2,h3⟩:=h
 exact⟨q,xs,s _ _ h1,s _ _ h2,h3.mono s⟩
def PcsOk (cs:List Pc):Prop:=cs.length≤90∧∀c∈cs,PcOk c∧PcSg c
def qqf {c:Pc}(o:PcOk c)(hn:∀x∈c.name,isSg x=true):PcSg c:=
 ⟨fun l h=>by subst h;exact o.2.2.1,fun h n t e=>by subst e;exact⟨o.2.2.1,o.2.2.2.1⟩,hn⟩
theorem PcT.pick {H:Hp}{cs:List Pc}{xs:List V}(h:PcT H cs xs):∀il:List Nat,(∀i∈il,i < xs.length)->PcT H (il.map fun i=>cs[i]?.getD (.gap [])) (il.map fun i=>xs[i]?.getD .non)
 |[],_=>.nil
 |i::il,hi=>by
  have hlt:=hi i (mem_cons_self ..)
  have hv:xs[i]?=some xs[i]:=List.getElem?_eq_getElem hlt
  obtain⟨c,p,hc,e,hp⟩:=h.get hv
  rw[map_cons,map_cons,hc,hv,e]
  exact .cons hp (PcT.pick h il fun j hj=>hi j (mem_cons_of_mem _ hj))
theorem oqT {H H':Hp}{a:Addr}(s:Same H H')(h:H' a=none):H a=none:=by
 cases e:H a with
 |none=>rfl
 |some o=>rw[s _ _ e] at h;cases h
def nqq {H H':Hp}{l:Addr}{ys:List V}(s:Same H H')(h:H l=none):Same H (upd H' l (.lst ys)):=fun b o hb=>by
 rw[aqp (fun w=>by subst w;rw[h] at hb;cases hb)];exact s _ _ hb
def gqK {H:Hp}{l:Addr}{ys zs:List V}(h:H l=some (.lst zs)):SameT H (upd H l (.lst ys)):=fun b o hb=>by
 rw[aqp (fun w=>by subst w;rw[h] at hb;cases hb)];exact hb
def alikeM:Pc->Pc->Bool
 |.step v,.step w=>decide (v=w)
 |.part h _ t,.part h' _ t'=>decide (h=h') && decide (t=t')
 |.num _,.num _=>true
 |.word _,.word _=>true
 |.gap _,.gap _=>true
 |.rest _,.rest _=>true
 |_,_=>false
structure Wid (c d:Pc):Prop where
 ok:PcOk d
 nr:d.isRest=false
 fits:∀s,fitsM c s=true->fitsM d s=true
 grown:alikeM c d=true∨stepBey d c≠none
def tqz (h t z:List Nat)(hz:0 < z.length):partB h t (h++z++t)=true:=by
 have ac:(h++z++t).length=h.length+z.length+t.length:=by simp only[length_append]
 unfold partB
 simp only[Bool.and_eq_true,decide_eq_true_eq]
 refine⟨by rw[append_assoc,take_left],?_,by lia⟩
 have hd:(h++z++t).length - t.length=(h++z).length:=by rw[ac,length_append];lia
 rw[hd,drop_left]
def restM (cs:List Pc):Nat:=if hasRest cs=true then cs.length - 1 else cs.length
structure WidAll (cs ds:List Pc):Prop where
 len:ds.length=restM cs
 wid:∀(i:Nat) (c d:Pc),cs[i]?=some c->ds[i]?=some d->Wid c d
end Wm
namespace L2
open PySem PySem.Spec PySem.W PySem.Calls PyProof.Rows
section
variable {prog:Program}{w:World}{A:Around}{R:Result->Shared->Prop}{I S:Addr}{fp wr:List Addr}{P:Nat->Value->Prop}{St:Nat->Heap->Prop}{n:Nat}
end
section
variable {A:Around}{prog:Program}{w:World}{s:Shared}{E:Value->Shared->Prop}
end
section
variable {X:Cx}{p pos kp kpos:Pos}{e e2:Expr}{t:TA}
end
end L2
namespace Wm
open PySem L2
theorem PcOk.ends {c:Pc}(o:PcOk c):c.head.length≤100∧c.tail.length≤100:=by
 cases c with
 |part h n t=>exact⟨o.1,o.2.1⟩
 |_=>exact⟨Nat.zero_le _,Nat.zero_le _⟩
end Wm
namespace HT
open PySem PyProof.Rows
section
open PySem.SeqAt
open PySem.AutoSeq1 (wpAny_loadPart')
open PySem.MeetsSeq PySem.MeetsSeq2 PySem.MeetsSeq3
end
section
variable {prog:Program}{w:World}{A:Around}{E:Value->Shared->Prop}{s:Shared}
end
end HT
namespace L2
open PySem PySem.Spec PyProof.Rows PyProof.V
section
variable {X:Cx}{o i:Expr}{x:Str}{np pos:Pos}{td ty:TE}
def tTab (p:Addr)(D:List (PyData×PyData))(td ty:TE):TE:=fun σ H Q=>td σ H fun x H1=>ty σ H1 fun y H2=>x=.ref p∧∃(k:Str) (n:Int),y=.str k∧lookup (.str k) D=some (.int n)∧Q (.int n) H2
def zqr {p:Addr}{D:List (PyData×PyData)}{σ:St}{H:Hp}{Q:VK}:(tTab p D td ty σ H Q)=(td σ H fun x H1=>ty σ H1 fun y H2=>x=.ref p∧∃(k:Str) (n:Int),y=.str k∧lookup (.str k) D=some (.int n)∧Q (.int n) H2):=rfl
end
end L2
namespace Wm
open PySem L2
def wordW:Pc->Int
 |.step _=>6
 |.part ..=>5
 |.num _=>4
 |.word _=>3
 |.gap _=>2
 |.rest _=>1
def worthM (c:Pc):List Int:=[wordW c,((c.head.length+c.tail.length:Nat):Int),(c.head.length:Int)]
def LastR (cs:List Pc):Prop:=∀(i:Nat) (c:Pc),cs[i]?=some c->c.isRest=true->i+1=cs.length
def sqd {cs:List Pc}{i:Nat}{c:Pc}(l:LastR cs)(h:cs[i]?=some c)(hr:c.isRest=true):hasRest cs=true:=by
 have:=l i c h hr
 unfold hasRest
 rw[List.getLast?_eq_getElem?,<- this,Nat.add_sub_cancel,h]
 exact hr
structure Wdr (c d:Pc):Prop where
 ok:PcOk d
 fit:∀s,fitsM c s=true->fitsM d s=true
 le:HT.lexLt (worthM c) (worthM d)=false
 nr:d.isRest=c.isRest
theorem AqB {n:Nat}(h:n < 10 ^ 60):numB (dg (n:Int))=true:=by
 have hd:=jqJ n
 have ed:dg (n:Int)=(Nat.toDigits 10 n).map Char.toNat:=by unfold dg;rw[PySem.W.KIN.signs_num]
 have ag:=qqo (i:=(n:Int)) (by lia)
 have ae:(dg (n:Int)).length≤60:=by rw[ed,length_map];exact tqn h
 have ad:dg (n:Int)≠[]:=by rw[ed];exact hd.2.1
 unfold numB
 have ac:1≤(dg (n:Int)).length:=length_pos_iff.mpr ad
 have af:(dg (n:Int)).all isFig=true:=all_eq_true.mpr fun x hx=>by
  have:=ag x hx
  simp only[isFig,Bool.and_eq_true,decide_eq_true_eq]
  exact this
 rw[decide_eq_true ac,decide_eq_true ae,af]
 by_cases h0:(dg (n:Int)).head?=some 48
 ·rw[ed] at h0
  have:=hd.2.2 h0
  subst this
  rw[show dg ((0:Nat):Int)=[48] by decide +kernel];decide
 ·rw[decide_eq_false h0];simp
end Wm
namespace L2
open PySem PySem.Spec PyProof.Rows
section
variable {X:Cx}
def rIndexL:V->List V->Hp->VK->Prop:=fun x vs H Q=>∃(l:Addr) (xs:List V) (k:Str) (j:Nat),x=.ref l∧vs=[.str k]∧H l=some (.lst xs)∧(∀v∈xs,∃z,v=.str z)∧xs[j]?=some (.str k)∧(∀i,i < j->xs[i]?≠some (.str k))∧Q (.int j) H
def yqg {l:Addr}{k:Str}{H:Hp}{Q:VK}:rIndexL (.ref l) [.str k] H Q↔∃(xs:List V) (j:Nat),H l=some (.lst xs)∧(∀v∈xs,∃z,v=.str z)∧xs[j]?=some (.str k)∧(∀i,i < j->xs[i]?≠some (.str k))∧Q (.int j) H:=
 ⟨fun⟨_,xs,_,j,e1,e2,h⟩=>by cases e1;cases e2;exact⟨xs,j,h⟩,fun⟨xs,j,h⟩=>⟨l,xs,k,j,rfl,rfl,h⟩⟩
end
end L2
namespace HT
open PySem PyProof.Rows
section
open PySem.SeqAt
open PySem.AutoSeq1 (wpAny_loadPart')
open PySem.MeetsSeq PySem.MeetsSeq2 PySem.MeetsSeq3
variable {α:Type}{eqf gtf:α->α->Bool}{l b:Addr}{us ws:Array Value}{n n2:Nat}{dd dd2:Option Addr}{sl sl2:Array (Option Value)}{xs ys:List α}
end
end HT
namespace L2
open PySem PySem.Spec PyProof.Rows
section
variable {X:Cx}
end
section
variable {κ:Type}[DecidableEq κ]
def valV (kvs:List (κ×V))(k:κ):Option V:=(kvs.find? fun kv=>decide (kv.1=k)).map (·.2)
def putK (kvs:List (κ×V))(k:κ)(v:V):List (κ×V):=
 if (kvs.any fun kv=>decide (kv.1=k))=true then kvs.map (fun kv=>if kv.1=k then (kv.1,v) else kv) else kvs++[(k,v)]
def cqu {p:κ×V}{r:List (κ×V)}{k:κ}(e:p.1=k):valV (p::r) k=some p.2:=by simp[valV,List.find?_cons,e]
def cqA {p:κ×V}{r:List (κ×V)}{k:κ}(e:¬ p.1=k):valV (p::r) k=valV r k:=by simp[valV,List.find?_cons,e]
theorem nqk (k:κ):∀kvs:List (κ×V),(kvs.any fun kv=>decide (kv.1=k))=(valV kvs k).isSome
 |[]=>rfl
 |p::r=>by
  rw[any_cons]
  by_cases e:p.1=k
  ·simp only[cqu e,decide_eq_true e,Bool.true_or,Option.isSome_some]
  ·rw[cqA e,decide_eq_false e,Bool.false_or];exact nqk k r
theorem rqe (k j:κ)(y:V):∀kvs:List (κ×V),valV (kvs.map fun kv=>if kv.1=k then (kv.1,y) else kv) j=(valV kvs j).map fun x=>if j=k then y else x
 |[]=>rfl
 |p::r=>by
  have ih:=rqe k j y r
  rw[map_cons]
  by_cases h:p.1=k
  ·rw[if_pos h]
   by_cases e:p.1=j
   ·rw[cqu (p:=(p.1,y)) e,cqu e,Option.map_some,if_pos (e.symm.trans h)]
   ·rw[cqA (p:=(p.1,y)) e,cqA e,ih]
  ·rw[if_neg h]
   by_cases e:p.1=j
   ·rw[cqu (p:=p) e,cqu e,Option.map_some,if_neg (fun z=>h (e.trans z))]
   ·rw[cqA (p:=p) e,cqA e,ih]
theorem pqC (k j:κ)(y:V):∀kvs:List (κ×V),valV kvs k=none->valV (kvs++[(k,y)]) j=if j=k then some y else valV kvs j
 |[],_=>by
  by_cases e:k=j
  ·rw[if_pos e.symm];exact cqu (p:=(k,y)) e
  ·rw[if_neg (fun z=>e z.symm)];exact cqA (p:=(k,y)) e
 |p::r,hn=>by
  rw[cons_append]
  have hk:¬ p.1=k:=fun z=>by rw[cqu z] at hn;cases hn
  rw[cqA hk] at hn
  have ih:=pqC k j y r hn
  by_cases e:p.1=j
  ·rw[cqu e,cqu e,if_neg (fun z=>hk (e.trans z))]
  ·rw[cqA e,cqA e,ih]
theorem qq6 (kvs:List (κ×V))(k j:κ)(y:V):valV (putK kvs k y) j=if j=k then some y else valV kvs j:=by
 unfold putK
 by_cases a:(kvs.any fun kv=>decide (kv.1=k))=true
 ·rw[if_pos a,rqe]
  rw[nqk] at a
  by_cases e:j=k
  ·obtain⟨x,hx⟩:=Option.isSome_iff_exists.mp a
   rw[if_pos e,e,hx,Option.map_some,if_pos rfl]
  ·rw[if_neg e]
   cases valV kvs j with
   |none=>rfl
   |some x=>rw[Option.map_some,if_neg e]
 ·rw[if_neg a]
  refine pqC k j y kvs ?_
  rw[nqk] at a
  cases q:valV kvs k with
  |none=>rfl
  |some x=>rw[q] at a;exact (a rfl).elim
def pq1 (kvs:List (κ×V))(k:κ)(v:V):(putK kvs k v).length≤kvs.length+1:=by
 unfold putK
 split
 ·rw[length_map];lia
 ·rw[length_append,length_cons,length_nil];lia
theorem KV.val {kvs:List (κ×V)}{vs:List (κ×Value)}(r:KV kvs vs)(k:κ):RelO (valV kvs k) (valueAt vs k):=by
 unfold KV at r
 induction r with
 |nil=>exact True.intro
 |@cons p q ps qs h t ih=>
  obtain⟨h1,h2⟩:=h
  by_cases e:p.1=k
  ·have e':q.1=k:=h1.symm.trans e
   have b:valueAt (q::qs) k=some q.2:=by simp[valueAt,List.find?_cons,e']
   rw[cqu e,b];exact h2
  ·have e':¬ q.1=k:=fun z=>e (h1.trans z)
   have b:valueAt (q::qs) k=valueAt qs k:=by simp[valueAt,List.find?_cons,e']
   rw[cqA e,b];exact ih
theorem KV.any {kvs:List (κ×V)}{vs:List (κ×Value)}(r:KV kvs vs)(k:κ):(kvs.any fun kv=>decide (kv.1=k))=vs.any fun kv=>decide (kv.1=k):=by
 unfold KV at r
 induction r with
 |nil=>rfl
 |cons h t ih=>rw[any_cons,any_cons,ih,h.1]
theorem KV.repl {kvs:List (κ×V)}{vs:List (κ×Value)}(r:KV kvs vs)(k:κ){y:V}{u:Value}(ry:RelV y u) :
  KV (kvs.map fun kv=>if kv.1=k then (kv.1,y) else kv) (vs.map fun kv=>if kv.1=k then (kv.1,u) else kv):=by
 unfold KV at r ⊢
 induction r with
 |nil=>exact .nil
 |@cons p q ps qs h t ih=>
  rw[map_cons,map_cons]
  refine .cons ?_ ih
  obtain⟨h1,h2⟩:=h
  by_cases e:p.1=k
  ·rw[if_pos e,if_pos (h1.symm.trans e)];exact⟨h1,ry⟩
  ·rw[if_neg e,if_neg (fun z=>e (h1.trans z))];exact⟨h1,h2⟩
def KV.put {kvs:List (κ×V)}{vs:List (κ×Value)}(r:KV kvs vs)(k:κ){y:V}{u:Value}(ry:RelV y u):KV (putK kvs k y) (stored vs k u):=by
 unfold putK stored
 rw[r.any k]
 by_cases e:(vs.any fun kv=>decide (kv.1=k))=true
 ·rw[if_pos e,if_pos e];exact r.repl k ry
 ·rw[if_neg e,if_neg e];exact Paired.snoc r ⟨rfl,ry⟩
def KV.length {kvs:List (κ×V)}{vs:List (κ×Value)}(r:KV kvs vs):kvs.length=vs.length:=Paired.length r
end
theorem wqK {P:Program}{w:World}{k:Key}{u:Value}(r:RelV (kV k) u):(mixKind P w).is k u=true:=by
 cases k with
 |inl i=>obtain⟨t,e⟩:=(show ∃t,u=Value.int i t from r);subst e;exact pq3 P w i t
 |inr x=>obtain⟨t,e⟩:=(show ∃t,u=Value.str x t from r);subst e;exact pqO P w x t
theorem oqw {P:Program}{w:World}:∀{ks:List Key}{us:List Value},Vals (ks.map kV) us->ItemsAre (mixKind P w) ks us
 |[],_,r=>by rw[map_nil] at r;cases r;exact .nil
 |k::ks,_,r=>by
  rw[map_cons] at r
  cases r with
  |cons h t=>exact .cons (wqK h) (oqw t)
abbrev KT (H:Hp):List (List Key×V)->List (List Key×Addr×Value)->Prop:=Paired fun p q=>p.1=q.1∧H q.2.1=some (.tup (p.1.map kV))∧RelV p.2 q.2.2
theorem KT.val {H:Hp}{kvs:List (List Key×V)}{xs:List (List Key×Addr×Value)}(r:KT H kvs xs)(k:List Key):RelO (valV kvs k) ((atKey xs k).map (·.2)):=by
 induction r with
 |nil=>exact True.intro
 |@cons p q ps qs h t ih=>
  obtain⟨h1,_,h2⟩:=h
  by_cases e:p.1=k
  ·have e':q.1=k:=h1.symm.trans e
   have b:atKey (q::qs) k=some q.2:=by simp[atKey,List.find?_cons,e']
   rw[cqu e,b];exact h2
  ·have e':¬ q.1=k:=fun z=>e (h1.trans z)
   have b:atKey (q::qs) k=atKey qs k:=by simp[atKey,List.find?_cons,e']
   rw[cqA e,b];exact ih
section
variable {P:Program}{w:World}{H:Hp}{h:Heap}{a:Addr}
def Aqn {u:HO}(ok:HOk P w H h)(e:Rd H a u):ObjOk P w H h a u:=e.ok ok
def zqu {kvs:List (Key×V)}(ok:HOk P w H h)(e:Rd H a (.dK kvs)):kvs.length≤sizeLine∧(a == sysModules)=false∧∃vs,KV kvs vs∧h.DictOf (mixKind P w) a vs:=
 show ObjOk P w H h a (.dK kvs) from Aqn ok e
def wqA {ks:List Key}(ok:HOk P w H h)(e:H a=some (.tup (ks.map kV))):(tupleKind (mixKind P w)).is h ks a:=by
 obtain⟨_,its,r,o,h1,h2,n,h3⟩:=(show ObjOk P w H h a (.tup (ks.map kV)) from ok a _ e)
 exact⟨o,its.toArray,n,h1,h2,h3,by simpa using oqw r⟩
theorem zqS {kvs:List (List Key×V)}(ok:HOk P w H h)(e:Rd H a (.dT kvs)):kvs.length≤sizeLine∧(a == sysModules)=false ∧
  ∃xs,KT H kvs xs∧h.DictOfH (tupleKind (mixKind P w)) a xs:=by
 obtain⟨z,y,xs,r,o,es,ep,h1,h2,h3,h4,h5⟩:=(show ObjOk P w H h a (.dT kvs) from Aqn ok e)
 refine⟨z,y,xs,r,o,es,ep,h1,h2,h3,h4,fun x hx=>?_,h5⟩
 have ac:∀{l:List (List Key×V)}{m:List (List Key×Addr×Value)},KT H l m->∀x∈m,(tupleKind (mixKind P w)).is h x.1 x.2.1:=by
  intro l m q
  induction q with
  |nil=>intro x hx;exact nomatch hx
  |@cons p q ps qs hq t ih=>
   intro x hx
   rcases mem_cons.mp hx with e|hx
   ·subst e
    exact wqA ok (by rw[<- hq.1];exact hq.2.1)
   ·exact ih x hx
 exact ac r x hx
end
def DGet (H:Hp)(a:Addr)(y:V)(r:Option V):Prop:=
 (∃kvs k,Rd H a (.dK kvs)∧y=kV k∧r=valV kvs k)∨∃kvs k b,Rd H a (.dT kvs)∧y=.ref b∧H b=some (.tup (k.map kV))∧r=valV kvs k
def DPut (H:Hp)(a:Addr)(y v:V)(H':Hp):Prop:=
 (∃kvs k,H a=some (.dK kvs)∧y=kV k∧kvs.length < sizeLine∧H'=upd H a (.dK (putK kvs k v))) ∨
 ∃kvs k b,H a=some (.dT kvs)∧y=.ref b∧H b=some (.tup (k.map kV))∧kvs.length < sizeLine∧H'=upd H a (.dT (putK kvs k v))
def DGet.k {H:Hp}{a:Addr}{kvs:List (Key×V)}{k:Key}(e:H a=some (.dK kvs)):DGet H a (kV k) (valV kvs k):=.inl ⟨kvs,k,.inl e,rfl,rfl⟩
section
variable {X:Cx}{pins:List (Addr×Obj)}{σ:St}{H:Hp}{s:Shared}{a:Addr}{y v:V}{u r:Value}{o:Option V}{A:Around}{E:Value->Shared->Prop}
def Inv.big (I:Inv X pins σ H s):sysModules < s.heap.objs.size:=by
 have h:mainGlobals < s.heap.objs.size:=(I.mod.glob.keeps I.bk).lt
 exact Nat.lt_trans (by decide) h
theorem uqg {Q:Value->Shared->Prop}(hu:A.units+1 < cLine)(I:Inv X pins σ H s)(g:DGet H a y (some v))(ry:RelV y u)(h:∀w' s',Inv X pins σ H s'->RelV v w'->Q w' s') :
  wpAny (model X.prog X.w) A (getItem (.ref a) u) Q E s:=by
 rcases g with⟨ae,k,e,ey,l⟩|⟨ae,k,b,e,ey,eb,l⟩
 ·subst ey
  obtain⟨z,hd,vs,ad,dd⟩:=zqu I.hok e
  obtain⟨w',hw,ac⟩:=RelO.some_of (v:=v) (o:=valueAt vs k) (by rw[l];exact ad.val k)
  exact wpAny_getItem_of (wqK ry) dd.mapOf hw (h w' _ (I.tok _) ac)
 ·subst ey
  cases (show u=Value.ref b from ry)
  obtain⟨z,hd,xs,ad,dd⟩:=zqS I.hok e
  obtain⟨w',hw,ac⟩:=RelO.some_of (v:=v) (o:=(atKey xs k).map (·.2)) (by rw[l];exact ad.val k)
  obtain⟨p,hp,af⟩:=Option.map_eq_some_iff.mp hw
  refine wpAny_getItem_heap (tupleKind_room_in1 hu) (wqA I.hok eb) dd hp ?_
  rw[af]
  exact h w' _ (I.tok _) ac
def zq6 {P:Program}{w:World}{H':Hp}{h':Heap}{kvs:List (Key×V)}{vs:List (Key×Value)}(z:kvs.length≤sizeLine)(hd:(a == sysModules)=false)(rel:KV kvs vs)(dd:h'.DictOf (mixKind P w) a vs) :
  ObjOk P w H' h' a (.dK kvs):=⟨z,hd,vs,rel,dd⟩
end
section
variable {X:Cx}{pins:List (Addr×Obj)}{σ:St}{H:Hp}{s:Shared}{a:Addr}{kvs:List (Key×V)}{k:Key}{u:Value}{A:Around}{E:Value->Shared->Prop}
end
def NoSl (i:Expr):Prop:=∀ov iv,subscripted i false ov iv=operate [ov,iv] (getItem ov iv)
theorem wqT {prog:Program}{w:World}{A:Around}{E:Value->Shared->Prop}{s:Shared}{env:Env}{value slice:Expr}{pos:Pos}{T id:String}{Q:Value->Shared->Prop}
  (hl:typeLookup (.type T) "__getitem__"=pure (some (.builtin id))) (hs:NoSl slice)
  (h:wpAny (model prog w) A (eval value env) (fun o s₁=>wpAny (model prog w) A (eval slice env) (fun i s₂=>s₂.TypeIs o T∧wpAny (model prog w) A (getItem o i) Q E s₂) E s₁) E s) :
  wpAny (model prog w) A (eval (.Subscript value slice pos) env) Q E s:=by
 refine Subscript_ (wpAny_mono h (fun o s₁ h₁=>wpAny_mono h₁ (fun i s₂ h₂=>?_) fun _ _ x=>x) fun _ _ x=>x)
 obtain⟨hT,h₂⟩:=h₂
 unfold subscriptTail
 refine wpAny_bind ?_
 rw[getitemInPython_of_ne hT.not_modules]
 refine wpAny_bind (wpAny_specialOf hT hl ?_)
 have ac:wpAny (model prog w) A (subscripted slice false o i) (fun r s₃=>wpAny (model prog w) A (letTemporaryGo value o r >>= fun _=>pure r) Q E s₃) E s₂:=by
  rw[hs o i]
  exact wpAny_operating (wpAny_mono h₂ (fun r s₃ h₃=>wpAny_bind (wpAny_letTemporaryGo (wpAny_pure h₃))) fun _ _ x=>x)
 first
  |exact wpAny_pure (wpAny_bind ac)
  |exact wpAny_bind (wpAny_pure (wpAny_bind ac))
  |exact wpAny_bind ac
def pq8 {X:Cx}{pins:List (Addr×Obj)}{σ:St}{H:Hp}{s:Shared}{a:Addr}{y:V}{o:Option V}(I:Inv X pins σ H s)(g:DGet H a y o):s.TypeIs (.ref a) "dict" := by
 rcases g with⟨kvs,k,e,_,_⟩|⟨kvs,k,b,e,_,_,_⟩
 ·obtain⟨_,_,vs,_,dd⟩:=zqu I.hok e
  exact dd.typeIs
 ·obtain⟨_,_,xs,_,dd⟩:=zqS I.hok e
  exact dd.typeIs
def tDGet (td ty:TE):TE:=fun σ H Q=>td σ H fun x H1=>ty σ H1 fun y H2=>∃a v,x=.ref a∧DGet H2 a y (some v)∧Q v H2
def sDPut (td ty tv:TE):TS:=fun D σ H=>tv σ H fun v H1=>td σ H1 fun x H2=>ty σ H2 fun y H3=>∃a H4,x=.ref a∧DPut H3 a y v H4∧D.nx σ H4
section
variable {X:Cx}{o i e value:Expr}{pos pos' tpos:Pos}{td ty tv:TE}
def pqQ (hu:X.A.units+1 < cLine)(ho:PE X o td)(hi:PE X i ty)(hs:NoSl i):PE X (.Subscript o i pos) (tDGet td ty):=by
 intro ac s σ H Q I h
 refine wqT PySem.F.slot_dict_getitem.lookup hs (thn (ho ac s σ H _ I h) fun u s1 ⟨x,H1,I1,rx,q1⟩=>thn (hi ac s1 σ H1 _ I1 q1) fun iv s2 W'=>?_)
 obtain⟨y,H2,I2,ry,a,v,ex,g,q2⟩:=W'
 subst ex
 obtain rfl:u=Value.ref a:=rx
 exact⟨pq8 I2 g,uqg hu I2 g ry fun w' s3 I3 ad=>⟨v,H2,I3,ad,q2⟩⟩
end
def tDNewK:TE:=fun _ H Q=>∀p,H p=none->Q (.ref p) (upd H p (.dK []))
section
variable {X:Cx}{pos:Pos}
end
def tPairs:List (TE×TE)->St->Hp->(List (V×V)->Hp->Prop)->Prop
 |[],_,H,Q=>Q [] H
 | (tk,tv)::r,σ,H,Q=>tk σ H fun x H1=>tv σ H1 fun y H2=>tPairs r σ H2 fun ps H3=>Q ((x,y)::ps) H3
def mergeK (kvs more:List (Key×V)):List (Key×V):=more.foldl (fun acc kv=>putK acc kv.1 kv.2) kvs
theorem KV.merge:∀{more:List (Key×V)}{rs:List (Key×Value)}{kvs:List (Key×V)}{vs:List (Key×Value)},KV more rs->KV kvs vs->KV (mergeK kvs more) (merged vs rs):=by
 intro more rs kvs vs r
 unfold KV at r
 induction r generalizing kvs vs with
 |nil=>intro q;exact q
 |@cons p q ps qs h t ih=>
  intro r0
  have e:KV (putK kvs p.1 p.2) (stored vs q.1 q.2):=by
   have:=r0.put p.1 h.2
   rw[<- h.1];exact this
  exact ih e
theorem jqy:∀(more kvs:List (Key×V)),(mergeK kvs more).length≤kvs.length+more.length
 |[],kvs=>by show kvs.length≤kvs.length+0;lia
 |p::r,kvs=>by
  have h1:=jqy r (putK kvs p.1 p.2)
  have h2:=pq1 kvs p.1 p.2
  show (mergeK (putK kvs p.1 p.2) r).length≤_
  rw[length_cons];lia
def tDisp (trs:List (TE×TE)):TE:=fun σ H Q=>∀p,H p=none->tPairs trs σ (upd H p (.dK [])) fun ps H2=>H2 p=some (.dK [])∧∃kvs:List (Key×V),ps=kvs.map (fun kv=>(kV kv.1,kv.2))∧kvs.length≤15∧Q (.ref p) (upd H2 p (.dK (mergeK [] kvs)))
structure M1 (X:Cx)(o:Expr)(m:Str)(apos:Pos)(e:Expr)(cpos:Pos):Prop where
 base:attributeBase o m X.env (eval o X.env)=eval o X.env
 few:((backTo cpos (starEach [e] X.env)).all (fun x=>!x.1) && (backToKw cpos (keywordEach [] X.env)).all (fun x=>x.1.isSome)
  && decide (([e]:List Expr).length+([]:List Keyword).length+(if ([]:List Keyword).isEmpty then 0 else 1) < 30))=true
 line:(apos.endLine == cpos.line)=true
 trees:backTo cpos (starEach [e] X.env)=[(false,eval e X.env)]
structure M2 (X:Cx)(o:Expr)(m:Str)(apos:Pos)(e f:Expr)(cpos:Pos):Prop where
 base:attributeBase o m X.env (eval o X.env)=eval o X.env
 few:((backTo cpos (starEach [e,f] X.env)).all (fun x=>!x.1) && (backToKw cpos (keywordEach [] X.env)).all (fun x=>x.1.isSome)
  && decide (([e,f]:List Expr).length+([]:List Keyword).length+(if ([]:List Keyword).isEmpty then 0 else 1) < 30))=true
 line:(apos.endLine == cpos.line)=true
 trees:backTo cpos (starEach [e,f] X.env)=[(false,eval e X.env),(false,eval f X.env)]
def IsD (H:Hp)(a:Addr):Prop:=(∃kvs,Rd H a (.dK kvs))∨∃kvs,Rd H a (.dT kvs)
section
variable {X:Cx}{pins:List (Addr×Obj)}{σ:St}{H:Hp}{s:Shared}{a:Addr}{y d:V}{u r:Value}{o:Option V}{A:Around}{E:Value->Shared->Prop}
end
def tDGet2 (td ty tx:TE):TE:=fun σ H Q=>td σ H fun x H1=>∃a,x=.ref a∧IsD H1 a∧ty σ H1 fun y H2=>tx σ H2 fun z H3=>∃o,DGet H3 a y o∧Q (o.getD z) H3
section
variable {X:Cx}{o e f:Expr}{apos cpos:Pos}{td ty tx:TE}
end
section
variable {X:Cx}{pins:List (Addr×Obj)}{σ:St}{H:Hp}{s:Shared}{a:Addr}{kvs:List (Key×V)}{A:Around}{E:Value->Shared->Prop}
end
section
variable {X:Cx}{pins:List (Addr×Obj)}{σ:St}{H:Hp}{s:Shared}{a:Addr}{y:V}{u:Value}{A:Around}{E:Value->Shared->Prop}
end
end L2
namespace L2
open PySem PyProof.Rows PySem.Spec
def Room.units1 {k:Nat}{A:Around}(r:Room k A):A.units+1 < cLine:=by have:=r.un;lia
section
variable {td ty tv:TE}{σ:St}{H:Hp}{Q:VK}{D:Ends}
def xqM:(tDGet td ty σ H Q)=(td σ H fun x H1=>ty σ H1 fun y H2=>∃a v,x=.ref a∧DGet H2 a y (some v)∧Q v H2):=rfl
def wqV:(sDPut td ty tv D σ H)=(tv σ H fun v H1=>td σ H1 fun x H2=>ty σ H2 fun y H3=>∃a H4,x=.ref a∧DPut H3 a y v H4∧D.nx σ H4):=rfl
def xqZ:(tDNewK σ H Q)=(∀p,H p=none->Q (.ref p) (upd H p (.dK []))):=rfl
def wqL {trs:List (TE×TE)}:(tDisp trs σ H Q)=(∀p,H p=none->tPairs trs σ (upd H p (.dK [])) fun ps H2=>H2 p=some (.dK [])∧∃kvs:List (Key×V),ps=kvs.map (fun kv=>(kV kv.1,kv.2))∧kvs.length≤15∧Q (.ref p) (upd H2 p (.dK (mergeK [] kvs)))):=rfl
def xq1 {R:List (V×V)->Hp->Prop}:(tPairs [] σ H R)=(R [] H):=rfl
def yqe {tk tv:TE}{r:List (TE×TE)}{R:List (V×V)->Hp->Prop}:(tPairs ((tk,tv)::r) σ H R)=(tk σ H fun x H1=>tv σ H1 fun y H2=>tPairs r σ H2 fun ps H3=>R ((x,y)::ps) H3):=rfl
def vq4 {tx:TE}:(tDGet2 td ty tx σ H Q)=(td σ H fun x H1=>∃a,x=.ref a∧IsD H1 a∧ty σ H1 fun y H2=>tx σ H2 fun z H3=>∃o,DGet H3 a y o∧Q (o.getD z) H3):=rfl
end
end L2
namespace L2
open PySem
section
variable {K:W.Frag}{p:Addr}{fv:St}{tt:TT}{te:TE}{Q:VK}{H1:Hp}
end
end L2
namespace Wm
open PySem L2
abbrev Rw:=List Nat×(List Pc×Bool)
def RwAt (H:Hp)(r:Rw)(v:V):Prop:=∃a p:Addr,v=.ref a∧H a=some (.tup [tV r.1,.ref p])∧PtAt H r.2.1 r.2.2 p
def RwAt.mono {H H':Hp}{r:Rw}{v:V}(s:SameT H H'):RwAt H r v->RwAt H' r v:=fun⟨a,p,e,h1,h2⟩=>⟨a,p,e,s _ _ h1,h2.mono s⟩
inductive TbV (H:Hp):List Rw->List V->Prop
 |nil:TbV H [] []
 |cons {r:Rw}{v:V}{rs:List Rw}{vs:List V}:RwAt H r v->TbV H rs vs->TbV H (r::rs) (v::vs)
theorem TbV.mono {H H':Hp}(s:SameT H H'){rs:List Rw}{vs:List V}(hh:TbV H rs vs):TbV H' rs vs:=by
 induction hh with
 |nil=>exact .nil
 |cons h t ih=>exact .cons (h.mono s) ih
theorem TbV.length {H:Hp}{rs:List Rw}{vs:List V}(hh:TbV H rs vs):vs.length=rs.length:=by
 induction hh with
 |nil=>exact rfl
 |cons h t ih=>rw[length_cons,length_cons,ih]
theorem TbV.get {H:Hp}{rs:List Rw}{vs:List V}(hh:TbV H rs vs){i:Nat}{v:V}(e:vs[i]?=some v):∃r,rs[i]?=some r∧RwAt H r v:=by
 induction hh generalizing i with
 |nil=>cases e
 |cons h _ ih=>
  cases i with
  |zero=>cases e;exact⟨_,rfl,h⟩
  |succ i=>exact ih e
theorem TbV.append {H:Hp}{ss:List Rw}{ws:List V}(h2:TbV H ss ws){rs:List Rw}{vs:List V}(hh:TbV H rs vs):TbV H (rs++ss) (vs++ws):=by
 induction hh with
 |nil=>exact h2
 |cons h t ih=>exact .cons h ih
end Wm
namespace PySem
def tq8:typeLookup (.type "list") (Str.ofString "keys")=pure none:=by rw[typeLookup_type,builtinLookup_eq_fast];kernel_rfl
theorem xqF {prog:Program}{w:World}{A:Around}{E:Value->Shared->Prop}{s:Shared}{a:Addr}{xs:Array Value}{k:Nat}{sl:Array (Option Value)}{Q:Option Value->Shared->Prop}
  (ha:s.heap.get? a=some ⟨.type "list",none,.seq xs k,sl⟩) (hA:A.handled=none)
  (h:∀(h':Heap) (n:Nat) (e:Addr),Heap.NewExcOf s.heap h' e "AttributeError" -> Q none {s with heap:=h',toks:=n}) :
  wpAny (model prog w) A (getAttr? (.ref a) (Str.ofString "keys")) Q E s:=by
 obtain⟨hp,gg,dd,tk,os⟩:=s
 have ty:∀n,(⟨hp,gg,dd,n,os⟩:Shared).TypeIs (.ref a) "list" := fun _=>⟨_,ha,rfl⟩
 have g1:=sub_AttributeError
 have g2:=F.slot_list_getattribute.lookup
 have g3:=F.slot_list_getattribute.bind (.ref a)
 have g4:=am_list_getattr_none
 unfold getAttr?;unfold getAttrBy? getAttrBy
 repeat (any_goals (first|assumption|exact ty _|((with_reducible show wpAny _ _ (call (Value.builtin "list.__getattribute__") _ _) _ _ _);refine call_meets F.slot_list_getattribute (ty _) am_entry_list_getattribute (F.args_list_getattribute_2 _ _) (meets_getattribute_miss_list a xs k sl _ _ tq8 (by decide) (by show 4+100≤sizeLine;decide)) ⟨ha,hA,fun h' n e he=>?_⟩)|wp_step))
 obtain⟨t',u',ht⟩:=he.there
 show wpAny _ _ (getattributeRaised _ _ _ _ _ _ _) _ _ _;unfold getattributeRaised
 repeat (any_goals first|assumption|wp_step)
 exact h _ _ _ he.of
def iqX:plainId "dict.update.loop"=true:=by decide +kernel
def oqy:entryFor table "dict.update.loop"=some Builtin.«dict.update.loop»:=entryFor_of_tree (by kernel_rfl)
section
variable {prog:Program}{w:World}{K:Type}[DecidableEq K]{knd:KeyKind prog w K}{A:Around}{R:Result->Shared->Prop}{h0:Heap}{d it l:Addr}{items:Array Value}{ps:List (K×Value)}
def PrsAt (knd:KeyKind prog w K)(h:Heap)(items:Array Value)(ps:List (K×Value)):Prop:=items.size=ps.length∧∀(i:Nat) (x:Value),items[i]?=some x->∃(a:Addr) (o:Obj) (n:Nat) (kv:K×Value) (key:Value),x=.ref a∧ps[i]?=some kv∧knd.is kv.1 key=true∧h.get? a=some o∧o.cls=.type "tuple" ∧ o.data=.seq #[key,kv.2] n
theorem vqU (hd0:h0.get? d=none)(hi0:h0.get? it=none)(hdi:d≠it)(hl:h0.IsList l items)(hp:PrsAt knd h0 items ps)(hsz:ps.length≤sizeLine)(hh:A.in1.handled=none) :
  ∀(k i:Nat) (s:Shared),items.size - i=k->i≤items.size->(∀b o,h0.get? b=some o->s.heap.get? b=some o)->s.heap.IsListIter it l i->s.heap.DictOf knd d (merged [] (ps.take i)) ->
  (∀(h':Heap) (n:Nat),(∀b o,h0.get? b=some o->h'.get? b=some o)->h'.DictOf knd d (merged [] ps)->R (.ok (.ret .none)) {s with heap:=h',toks:=n}) ->
  codeAny (model prog w) A (.builtin "dict.update.loop" ⟨[.ref d,.ref it,rawInt i,.none],[]⟩) R s:=by
 intro k
 induction k with
 |zero=>
  intro i s hk hi sm ag hd hR
  have am:i=items.size:=Nat.le_antisymm hi (by lia)
  obtain⟨o,ho,r⟩:=hl
  refine codeAny_builtin oqy ?_
  rw[Around.under_plainId iqX _]
  show wpAny _ A.in1 (pyNext (.ref it) >>= _) _ _ s
  refine wpAny_bind (wpAny_pyNext_list_end hh ag ⟨o,sm _ _ ho,r⟩ (by rw[am];simp) fun h' he=>?_)
  show wpAny _ A.in1 (Builtin.Dict.addKeywords d [] >>= _) _ _ _
  refine wpAny_bind (wpAny_pure (wpAny_pure ?_));rw[am,hp.1,take_length] at hd
  refine hR h' s.toks (fun b o e=>he b o (fun z=>by rw[z,hi0] at e;cases e) (sm b o e)) ?_
  obtain⟨o,es,ep,h1,h2⟩:=hd
  exact⟨o,es,ep,he d o hdi h1,h2⟩
 |succ k ih=>
  intro i s hk hi sm ag hd hR
  have al:i < items.size:=Nat.lt_of_sub_pos (by lia)
  obtain⟨a,o,n,kv,ah,hx,aq,ad,ha,hc,ar⟩:=hp.2 i items[i] (Array.getElem?_eq_getElem al)
  obtain⟨ol,ap,rl⟩:=id hl
  refine codeAny_builtin oqy ?_
  rw[Around.under_plainId iqX _]
  show wpAny _ A.in1 (pyNext (.ref it) >>= _) _ _ s
  refine wpAny_bind (wpAny_pyNext_list_item ag ⟨ol,sm _ _ ap,rl⟩ (x:=.ref a) (by rw[Array.getElem?_eq_getElem al,hx]) fun h1 af aj=>?_)
  have ac:∀b o,h0.get? b=some o->h1.get? b=some o:=fun b o e=>by
   rw[aj.2 b (fun z=>by rw[z,hi0] at e;cases e)]
   exact sm b o e
  have av:h1.DictOf knd d (merged [] (ps.take i)):=by
   obtain⟨o,es,ep,e1,e2⟩:=hd
   exact⟨o,es,ep,by rw[aj.2 d hdi];exact e1,e2⟩
  have aw:=merged_length_le ([]:List (K×Value)) (ps.take i)
  rw[length_take,length_nil] at aw
  refine wpAny_bind (wpAny_holding (wpAny_bind (wpAny_tryCatch ?_)))
  unfold Builtin.Dict.pairItems
  refine wpAny_bind (wpAny_typeOf (T := "tuple") ⟨o,ac _ _ ha,hc⟩ ?_)
  rw[if_pos (by decide)]
  refine wpAny_bind (wpAny_seqItems (ac _ _ ha) ar (wpAny_pure ?_))
  show wpAny _ A.in1 (holding [ah,kv.2] (dictSet d ah kv.2)) _ _ _
  refine wpAny_holding (wpAny_dictSet_pairs ad av (fun h2 au ai=>?_) (by lia))
  have ao:∀b o,h0.get? b=some o->h2.get? b=some o:=fun b o e=>by
   rw[ai.2 b (fun z=>by rw[z,hd0] at e;cases e)]
   exact ac b o e
  have ae:h2.IsListIter it l (i+1):=by
   obtain⟨o,e1,e2⟩:=af
   exact⟨o,by rw[ai.2 it (Ne.symm hdi)];exact e1,e2⟩
  refine wpAny_pure ⟨plainId_quiet iqX _,?_⟩
  have:=ih (i+1) {s with heap:=h2,toks:=s.toks+1} (by lia) (by lia) ao ae (by rw[merged_take_succ _ _ _ _ aq];exact au) (fun h' n e1 e2=>hR h' n e1 e2)
  exact this
end
section
variable {prog:Program}{w:World}{K:Type}[DecidableEq K]{knd:KeyKind prog w K}{A:Around}{E:Value->Shared->Prop}{s:Shared}{l:Addr}{items:Array Value}{ps:List (K×Value)}{c:Nat}{sl:Array (Option Value)}{Q:Value->Shared->Prop}
theorem sqm (hl:s.heap.get? l=some ⟨.type "list",none,.seq items c,sl⟩)(hp:PrsAt knd s.heap items ps)(hsz:ps.length≤sizeLine)(hA:A.handled=none)
  (h:∀(h':Heap) (n:Nat),(∀b o,s.heap.get? b=some o->h'.get? b=some o)->h'.DictOf knd s.heap.objs.size (merged [] ps)->Q (.ref s.heap.objs.size) {s with heap:=h',toks:=n}) :
  wpAny (model prog w) A (call (.type "dict") [.ref l]) Q E s:=by
 refine callType_codes (Q₁:=fun x s₁=>x=.ref s.heap.objs.size∧s₁={ s with heap:=s.heap.push {cls:=.type "dict",data:=.dict #[]} }) F.kt_called_dict (F.kt_typeCall_dict_1 _) F.entry_dict_init (kt_code_dict_new _ ⟨rfl,rfl⟩) ?_
 rintro x s₁ ⟨rfl,rfl⟩
 have nw:(s.heap.push {cls:=.type "dict",data:=.dict #[]}).DictOf knd s.heap.objs.size []:=Heap.DictOf.new s.heap
 have ac:∀b o,s.heap.get? b=some o->(s.heap.push {cls:=.type "dict",data:=.dict #[]}).get? b=some o:=fun b o e=>Heap.get?_push_of_some _ e
 refine⟨nw.typeIs,F.args_dict_init_2 _ _,?_⟩
 unfold Builtin.«dict.__init__»;refine wpAny_bind ?_
 unfold Builtin.Dict.selfAndRest;skip
 refine wpAny_bind (wpAny_notOrdered_dict nw.typeIs ?_)
 show wpAny _ _ (pure (s.heap.objs.size,[Value.ref l])) _ _ _
 refine wpAny_pure ?_
 show wpAny _ _ (Builtin.Dict.updateFrom "dict.__init__" s.heap.objs.size (.ref l) [] .none) _ _ _
 unfold Builtin.Dict.updateFrom;refine wpAny_bind (wpAny_typeOf (T := "list") ⟨_,ac _ _ hl,rfl⟩ ?_)
 rw[if_pos (by decide)]
 refine wpAny_bind (xqF (ac _ _ hl) hA fun h1 n1 e1 ag=>?_)
 show wpAny _ _ (rule _ >>= _) _ _ _
 refine wpAny_bind (wpAny_rule (wpAny_bind ?_))
 have ad:∀b o,s.heap.get? b=some o->h1.get? b=some o:=fun b o e=>ag.keeps b o (ac b o e)
 obtain⟨o,es,ep,g1,g2⟩:=nw
 have ah:=ag.keeps _ _ g1
 have af:s.heap.objs.size < h1.objs.size:=Heap.lt_size ah
 have ae:∀b,s.heap.objs.size≤b->s.heap.get? b=none:=fun b hb=>by
  cases e:s.heap.get? b with
  |none=>rfl
  |some o=>exact absurd (Heap.lt_size e) (Nat.not_lt.mpr hb)
 refine wpAny_pyIter_list (items:=items) ⟨_,ad _ _ hl,rfl,c,rfl⟩ ?_
 refine wpAny_pure ⟨plainId_quiet iqX _,?_⟩
 have:=@vqU prog w K _ knd A.in1 (wants (fun r s₂=>r=Value.none∧Q (Value.ref s.heap.objs.size) s₂) E) s.heap s.heap.objs.size h1.objs.size l items ps (ae _ (Nat.le_refl _)) (ae _ (Nat.le_of_lt af)) (Nat.ne_of_lt af) ⟨_,hl,rfl,c,rfl⟩ hp hsz hA items.size 0
  { s with heap:=h1.push {cls:=.type "list_iterator",data:=.fields #[.ref l,.int 0 0]},toks:=n1} rfl (Nat.zero_le _) (fun b o e=>Heap.get?_push_of_some _ (ad b o e)) ⟨_,Heap.get?_push_size _ rfl,rfl,rfl⟩ ⟨o,es,ep,Heap.get?_push_of_some _ ah,g2⟩ (fun h' n e1 e2=>⟨rfl,h h' n e1 e2⟩)
 exact this
end
end PySem
namespace L2
open PySem PySem.Spec PyProof.Rows
section
variable {X:Cx}{pins:List (Addr×Obj)}{σ:St}{H:Hp}{s:Shared}
theorem zqk (I:Inv X pins σ H s):∀{us:List V}{its:List Value}{kvs:List (Key×V)},Vals us its->us.length=kvs.length->(∀(i:Nat) (u:V),us[i]?=some u->∃(a:Addr) (kv:Key×V),u=.ref a∧kvs[i]?=some kv∧H a=some (.tup [kV kv.1,kv.2])) ->
  ∃ps:List (Key×Value),KV kvs ps∧its.length=ps.length∧∀(i:Nat) (x:Value),its[i]?=some x->∃(a:Addr) (o:Obj) (n:Nat) (kv:Key×Value) (key:Value),x=.ref a∧ps[i]?=some kv∧(mixKind X.prog X.w).is kv.1 key=true∧s.heap.get? a=some o∧o.cls=.type "tuple" ∧ o.data=.seq #[key,kv.2] n:=by
 intro us its kvs r
 induction r generalizing kvs with
 |nil=>
  intro hl hp
  cases kvs with
  |nil=>exact⟨[],.nil,rfl,fun i x h=>by simp at h⟩
  |cons a b=>simp at hl
 |cons r rs ih=>
  intro hl hp
  cases kvs with
  |nil=>simp at hl
  |cons kv kvs=>
   obtain⟨a,ad,e,hk,ha⟩:=hp 0 _ rfl
   subst e
   cases hk
   cases r
   obtain⟨z,ac,rv,o,g1,g2,n,g3⟩:=I.hok a _ ha
   cases rv with
   |cons r1 rv=>
    cases rv with
    |cons r2 rv=>
     cases rv
     obtain⟨ps,h1,h2,h3⟩:=ih (by simpa using hl) fun i u hu=>hp (i+1) u (by simpa using hu)
     refine⟨(kv.1,_)::ps,.cons ⟨rfl,r2⟩ h1,by simp[h2],fun i x hx=>?_⟩
     cases i with
     |zero=>cases hx;exact⟨a,o,n,_,_,rfl,rfl,wqK r1,g1,g2,g3⟩
     |succ i=>exact h3 i x (by simpa using hx)
def rDictL:List V->Hp->VK->Prop:=fun xs H Q=>∃(l:Addr) (us:List V) (kvs:List (Key×V)),xs=[.ref l]∧H l=some (.lst us)∧us.length=kvs.length∧kvs.length≤1000 ∧
 (∀(i:Nat) (u:V),us[i]?=some u->∃(a:Addr) (kv:Key×V),u=.ref a∧kvs[i]?=some kv∧H a=some (.tup [kV kv.1,kv.2]))∧∀p,H p=none->Q (.ref p) (upd H p (.dK (mergeK [] kvs)))
theorem sqr (hc:X.calm=true):CallR X (.type "dict") rDictL:=by
 intro ae s σ H xs us Q I rv h
 obtain⟨l,vs,ad,rfl,hl,ac,hz,hp,q⟩:=h
 obtain⟨u,rfl,r1⟩:=vals1 rv
 cases r1
 obtain⟨z,ag,n,r,e⟩:=I.hok l _ hl
 obtain⟨ps,k1,k2,k3⟩:=zqk I r ac hp
 have af:=jqy ad []
 have kl:=k1.length
 refine sqm (knd:=mixKind X.prog X.w) (ps:=ps) e ⟨by rw[size_toArray];exact k2,fun i x hx=>k3 i x (by simpa using hx)⟩ (by rw[<- kl];exact Nat.le_trans hz (by decide)) (I.ok.hd hc) fun h' t' sm dd=>?_
 have hf:=I.hok.fresh (Nat.le_refl s.heap.objs.size)
 exact⟨.ref s.heap.objs.size,_,I.laid (a:=s.heap.objs.size) (o:=.dK (mergeK [] ad)) (t':=t') sm (Nat.le_refl _) (zq6 (by rw[length_nil] at af;exact Nat.le_trans af (Nat.le_trans (by lia) (show 1000≤sizeLine by decide))) (beq_eq_false_iff_ne.mpr (Ne.symm (Nat.ne_of_lt I.big))) (k1.merge .nil) dd),rfl,q _ hf⟩
end
def yqi:bootBuiltins "dict"=some (.type "dict"):=by decide +kernel
theorem pqt:∀(more acc:List (Key×V)) (k:Key),k∉more.map (·.1)->valV (mergeK acc more) k=valV acc k
 |[],acc,k,_=>rfl
 |p::r,acc,k,h=>by
  have h1:=pqt r (putK acc p.1 p.2) k fun z=>h (mem_cons_of_mem _ z)
  refine (show valV (mergeK (putK acc p.1 p.2) r) k=valV acc k from ?_)
  rw[h1,qq6,if_neg fun z=>h (by rw[z];exact mem_cons_self ..)]
theorem oqh:∀(more acc:List (Key×V)) (k:Key) (v:V),(more.map (·.1)).Nodup->(k,v)∈more->valV (mergeK acc more) k=some v
 |[],acc,k,v,_,h=>by cases h
 |p::r,acc,k,v,hn,h=>by
  rw[map_cons] at hn;rw[nodup_cons] at hn
  refine (show valV (mergeK (putK acc p.1 p.2) r) k=some v from ?_)
  rcases mem_cons.mp h with z|z
  ·subst z
   rw[pqt r _ _ hn.1,qq6,if_pos rfl]
  ·exact oqh r _ k v hn.2 z
end L2
namespace Wm
open PySem L2
def GvOk (c:Pc)(x:Vl):Prop:=match c with
 |.part h _ t=>∃s:List Nat,x=.txt s∧s≠[]∧(∀z∈s,isSg z=true)∧s.length≤400∧isDot (h++s++t)=false
 |.num _=>∃n:Int,x=.int n∧0≤n∧n < 10 ^ 60
 |.word _=>∃s:List Nat,x=.txt s∧s.all isSma=true∧1≤s.length∧s.length≤60
 |.gap _=>∃s:List Nat,x=.txt s∧SgT s∧s.length≤400∧isDot s=false
 |.rest _=>∃ls:List (List Nat),x=.lst ls∧ls≠[]∧ls.length≤50∧∀s∈ls,SgT s∧s.length≤400∧isDot s=false
 |.step _=>False
inductive GvA:List Pc->List (List Nat×Vl)->Prop
 |nil:GvA [] []
 |step {w:List Nat}{cs:List Pc}{bs:List (List Nat×Vl)}:GvA cs bs->GvA (.step w::cs) bs
 |gap {c:Pc}{x:Vl}{cs:List Pc}{bs:List (List Nat×Vl)}:c.isStep=false->GvOk c x->GvA cs bs->GvA (c::cs) ((c.name,x)::bs)
def stM (c:Pc)(x:Vl):List (List Nat):=match x with
 |.txt s=>[c.head++s++c.tail]
 |.int n=>[dg n]
 |.lst ls=>ls
def stpsM:List Pc->List (List Nat×Vl)->List (List Nat)
 |[],_=>[]
 |.step w::cs,bs=>w::stpsM cs bs
 |c::cs,b::bs=>stM c b.2++stpsM cs bs
 |_::_,[]=>[]
theorem gqg {c:Pc}{cs:List Pc}{b:List Nat×Vl}{bs:List (List Nat×Vl)}(h:c.isStep=false):stpsM (c::cs) (b::bs)=stM c b.2++stpsM cs bs:=by
 cases c with
 |step w=>cases h
 |_=>rfl
def vqF (h t s:List Nat):amid h t (h++s++t)=s:=by
 unfold amid
 rw[append_assoc,drop_left]
 have:(h++(s++t)).length - t.length - h.length=s.length:=by simp only[length_append];lia
 rw[this,take_left]
theorem uq5 (n:Nat):valD ((Nat.toDigits 10 n).map Char.toNat)=n:=by
 induction n using Nat.strongRecOn with
 |ind n ih=>
  by_cases h:n < 10
  ·rw[Nat.toDigits_of_lt_base (by lia)]
   have:∀d,d < 10->valD ([Nat.digitChar d].map Char.toNat)=d:=by decide
   exact this n h
  ·rw[Nat.toDigits_of_base_le (by decide) (by lia),map_append]
   show valD (_++[(Nat.digitChar (n % 10)).toNat])=n
   have:∀d,d < 10->(Nat.digitChar d).toNat - 48=d:=by decide
   rw[eqA,ih (n / 10) (by lia),this (n % 10) (Nat.mod_lt _ (by decide))]
   lia
def zqd (n:Nat):dg (n:Int)=(Nat.toDigits 10 n).map Char.toNat:=by unfold dg;rw[PySem.W.KIN.signs_num]
theorem rqp {s:List Nat}(h:∀c∈s,c≠46):isDot s=false:=by
 cases hd:isDot s with
 |false=>rfl
 |true=>
  exfalso
  cases s with
  |nil=>exact absurd hd (by decide)
  |cons c r=>
   have hc:=h c (mem_cons_self ..)
   unfold isDot at hd
   simp[sStay,sUp] at hd
   lia
theorem wqB {c:Pc}{x:Vl}(ok:PcOk c)(hs:c.isStep=false)(hr:c.isRest=false)(h:GvOk c x):∃s,stM c x=[s]∧fitsM c s=true∧(∀r,bvM c (s::r)=x)∧SgT s∧s.length≤600:=by
 cases c with
 |step w=>cases hs
 |rest n=>cases hr
 |part a n t=>
  obtain⟨s,rfl,h1,h2,h3,h4⟩:=h
  obtain⟨o1,o2,o3,o4,_⟩:=ok
  refine⟨a++s++t,rfl,?_,fun r=>?_,⟨by simp[h1],fun z hz=>?_⟩,by simp only[length_append];lia⟩
  ·show (!isDot (a++s++t) && partB a t (a++s++t))=true
   rw[h4,tqz a t s (length_pos_iff.mpr h1)]
   rfl
  ·show Vl.txt (amid a t (a++s++t))=_
   rw[vqF]
  ·rcases mem_append.mp hz with y|y
   ·rcases mem_append.mp y with y|y
    ·exact o3 z y
    ·exact h2 z y
   ·exact o4 z y
 |num nm=>
  obtain⟨n,rfl,h0,h1⟩:=h
  obtain⟨k,rfl⟩:=Int.eq_ofNat_of_zero_le h0
  have hn:numB (dg (k:Int))=true:=AqB (by lia)
  have hf:=qqo (i:=(k:Int)) h0
  have nd:isDot (dg (k:Int))=false:=rqp fun c hc z=>by have:=hf c hc;lia
  have ht:fitsM (.num nm) (dg (k:Int))=true:=by
   show (!isDot (dg (k:Int)) && numB (dg (k:Int)))=true
   rw[hn,nd]
   rfl
  obtain⟨b1,b2,b3⟩:=qq0 ht
  refine⟨dg (k:Int),rfl,ht,fun r=>?_,⟨length_pos_iff.mp b1,fun c hc=>zqn (hf c hc)⟩,by lia⟩
  show Vl.int (intOf (dg (k:Int)))=_
  rw[oqi b3 b1 b2,zqd,uq5]
 |word n=>
  obtain⟨s,rfl,h1,h2,h3⟩:=h
  have hs:=all_eq_true.mp h1
  refine⟨s,by show [[]++s++[]]=[s];simp,?_,fun r=>?_,⟨length_pos_iff.mp h2,qqj h1⟩,by lia⟩
  ·show (!isDot s && wordB s)=true
   rw[rqp fun c hc z=>by have:=hs c hc;rw[z] at this;cases this]
   unfold wordB
   rw[h1,decide_eq_true h2,decide_eq_true h3]
   rfl
  ·show Vl.txt (amid [] [] s)=_
   rw[kq8]
 |gap n=>
  obtain⟨s,rfl,h1,h2,h3⟩:=h
  refine⟨s,by show [[]++s++[]]=[s];simp,?_,fun r=>?_,h1,by lia⟩
  ·show (!isDot s && true)=true
   rw[h3]
   rfl
  ·show Vl.txt (amid [] [] s)=_
   rw[kq8]
structure GvS (cs:List Pc)(bs:List (List Nat×Vl))(ss:List (List Nat)):Prop where
 bnd:boundM cs ss=bs
 fit:∀(i:Nat) (s:List Nat),ss[i]?=some s->∃c,cs[min i (cs.length - 1)]?=some c∧fitsM c s=true
 len:(∀c∈cs,c.isRest=false)->ss.length=cs.length
 le:cs.length≤ss.length
 sg:∀s∈ss,SgT s∧s.length≤600
 mx:ss.length≤cs.length+49
theorem GvS.cons {c:Pc}{cs:List Pc}{bs b:List (List Nat×Vl)}{s:List Nat}{ss:List (List Nat)}(h:GvS cs bs ss)(hf:fitsM c s=true)(hg:SgT s∧s.length≤600)(hb:(if c.isStep then [] else [(c.name,bvM c (s::ss))])=b):GvS (c::cs) (b++bs) (s::ss):=by
 refine⟨?_,fun i t ht=>?_,fun hr=>?_,?_,fun t ht=>?_,?_⟩
 ·show (if c.isStep then [] else [(c.name,bvM c (s::ss))])++boundM cs ss=_
  rw[hb,h.bnd]
 ·cases i with
  |zero=>cases ht;exact⟨c,by rw[Nat.zero_min];rfl,hf⟩
  |succ i=>
   obtain⟨d,h1,h2⟩:=h.fit i t (by simpa using ht)
   have hp:=(List.getElem?_eq_some_iff.mp h1).1
   refine⟨d,?_,h2⟩
   rw[length_cons,show min (i+1) (cs.length+1 - 1)=min i (cs.length - 1)+1 by lia]
   exact h1
 ·rw[length_cons,length_cons,h.len fun d hd=>hr d (mem_cons_of_mem _ hd)]
 ·rw[length_cons,length_cons];have:=h.le;lia
 ·rcases mem_cons.mp ht with z|z
  ·rw[z];exact hg
  ·exact h.sg t z
 ·rw[length_cons,length_cons];have:=h.mx;lia
theorem qqP {cs:List Pc}{bs:List (List Nat×Vl)}(h:GvA cs bs):(∀c∈cs,PcOk c)->LastR cs->GvS cs bs (stpsM cs bs):=by
 induction h with
 |nil=>exact fun _ _=>⟨rfl,(fun i s h=>by simp[stpsM] at h),fun _=>rfl,Nat.le_refl _,(fun s hs=>by cases hs),Nat.zero_le _⟩
 |@step w cs bs _ ih=>
  intro ok l
  have ih:=ih (fun c hc=>ok c (mem_cons_of_mem _ hc)) fun i c hc hr=>by have:=l (i+1) c hc hr;rw[length_cons] at this;lia
  obtain⟨o1,o2,o3,o4⟩:=ok _ (mem_cons_self ..)
  exact ih.cons (c:=.step w) (b:=[]) (by show (!isDot w && decide (w=w))=true;rw[o4,decide_eq_true rfl];rfl) ⟨⟨length_pos_iff.mp o1,o3⟩,by lia⟩ rfl
 |@gap c x cs bs hst hg _ ih=>
  intro ok l
  have ih:=ih (fun c hc=>ok c (mem_cons_of_mem _ hc)) fun i c hc hr=>by have:=l (i+1) c hc hr;rw[length_cons] at this;lia
  rw[gqg hst]
  cases hr:c.isRest with
  |false=>
   obtain⟨s,e,hf,hb,ac⟩:=wqB (ok c (mem_cons_self ..)) hst hr hg
   rw[e]
   exact ih.cons (b:=[(c.name,x)]) hf ac (by rw[hst,hb];rfl)
  |true=>
   have hn:cs=[]:=length_eq_zero_iff.mp (by have:=l 0 c rfl hr;rw[length_cons] at this;lia)
   subst hn
   have ad:bs=[]:=by have:=ih.bnd;exact this.symm
   subst ad
   cases c with
   |rest n=>
    obtain⟨ls,rfl,h1,h2,h3⟩:=hg
    show GvS [.rest n] [(n,.lst ls)] (ls++[])
    rw[append_nil]
    have hp:=length_pos_iff.mpr h1
    refine⟨rfl,fun i s hs=>⟨.rest n,by rw[show min i ([Pc.rest n].length - 1)=0 by simp];rfl,?_⟩,fun z=>?_,by simp;lia,fun s hs=>⟨(h3 s hs).1,by have:=(h3 s hs).2.1;lia⟩,by simp;lia⟩
    ·show (!isDot s && true)=true
     rw[(h3 s (mem_of_getElem? hs)).2.2]
     rfl
    ·have:=z (.rest n) (mem_singleton.mpr rfl)
     cases this
   |_=>cases hr
theorem yqH {cs:List Pc}{bs:List (List Nat×Vl)}(h:GvA cs bs)(ok:∀c∈cs,PcOk c)(l:LastR cs)(e:Bool):fitsP cs e true (stpsM cs bs) e=true:=by
 have g:=qqP h ok l
 obtain⟨ms,hm⟩:=qqg (ds:=cs) (n:=(stpsM cs bs).length) (by
  cases hr:hasRest cs with
  |true=>exact .inl ⟨rfl,g.le⟩
  |false=>
   refine .inr (g.len fun c hc=>?_)
   cases hcr:c.isRest with
   |false=>rfl
   |true=>
    obtain⟨i,hi⟩:=List.mem_iff_getElem?.mp hc
    rw[sqd l hi hcr] at hr
    cases hr)
 refine sqz.mpr ⟨ms,hm,rfl,rfl,fun i c s hc hs=>?_⟩
 obtain⟨d,h1,h2⟩:=g.fit i s hs
 have hi:=(List.getElem?_eq_some_iff.mp hs).1
 rcases (rqP hm).2 i hi with⟨z1,z2⟩|⟨z1,_,d',z3,z4,_⟩
 ·rw[z2] at hc
  rw[Nat.min_eq_left (by lia),hc] at h1
  cases h1
  exact h2
 ·rw[hc] at z3
  cases z3
  exact tqD z4 (vq3 h2)
def tqB {s:List Nat}{c:Nat}(hc:c∈s)(h:c≠46):isDot s=false:=lqS.mpr ⟨fun e=>by
 rw[e] at hc
 simp[sUp] at hc
 exact h hc,fun e=>by
 rw[e] at hc
 simp[sStay] at hc
 exact h hc⟩
theorem GvA.snoc {cs:List Pc}{bs:List (List Nat×Vl)}{c:Pc}{x:Vl}(h:GvA cs bs)(hs:c.isStep=false)(hx:GvOk c x):GvA (cs++[c]) (bs++[(c.name,x)]):=by
 induction h with
 |nil=>exact .gap hs hx .nil
 |step _ ih=>exact .step ih
 |gap h1 h2 _ ih=>exact .gap h1 h2 ih
theorem GvA.snocS {cs:List Pc}{bs:List (List Nat×Vl)}{w:List Nat}(h:GvA cs bs):GvA (cs++[.step w]) bs:=by
 induction h with
 |nil=>exact .step .nil
 |step _ ih=>exact .step ih
 |gap h1 h2 _ ih=>exact .gap h1 h2 ih
theorem GvA.whole:∀{cs:List Pc}{bs:List (List Nat×Vl)},GvA (cs.filter fun c=>!c.isStep) bs->GvA cs bs
 |[],_,h=>h
 |c::cs,bs,h=>by
  cases hs:c.isStep with
  |true=>
   rw[filter_cons,if_neg (by rw[hs];decide)] at h
   cases c with
   |step w=>exact .step h.whole
   |_=>cases hs
  |false=>
   rw[filter_cons,if_pos (by rw[hs];rfl)] at h
   cases h with
   |step h=>cases hs
   |gap h1 h2 h3=>exact .gap h1 h2 h3.whole
theorem GvA.names {cs:List Pc}{bs:List (List Nat×Vl)}(h:GvA cs bs):bs.map (·.1)=gapsM cs:=by
 induction h with
 |nil=>rfl
 |step _ ih=>exact ih
 |@gap c x cs bs h1 _ _ ih=>
  rw[map_cons,ih]
  unfold gapsM
  rw[filter_cons,if_pos (by rw[h1];rfl)]
  rfl
theorem GvOk.vl {c:Pc}{x:Vl}(h:GvOk c x):VlOk x:=by
 cases c with
 |step w=>exact h.elim
 |part a n t=>obtain⟨s,rfl,_,h2,h3,_⟩:=h;exact⟨h2,by lia⟩
 |num n=>obtain⟨s,rfl,_⟩:=h;trivial
 |word n=>obtain⟨s,rfl,h1,_,h3⟩:=h;exact⟨qqj h1,by lia⟩
 |gap n=>obtain⟨s,rfl,h1,h2,_⟩:=h;exact⟨h1.2,by lia⟩
 |rest n=>obtain⟨ls,rfl,_,h2,h3⟩:=h;exact⟨fun s hs=>⟨(h3 s hs).1.2,by have:=(h3 s hs).2.1;lia⟩,by lia⟩
theorem GvA.vl {cs:List Pc}{bs:List (List Nat×Vl)}(h:GvA cs bs):∀b∈bs,VlOk b.2:=by
 induction h with
 |nil=>intro b hb;cases hb
 |step _ ih=>exact ih
 |gap _ h2 _ ih=>
  intro b hb
  rcases mem_cons.mp hb with z|z
  ·rw[z];exact h2.vl
  ·exact ih b z
theorem pqc {cs:List Pc}{bs:List (List Nat×Vl)}(h:GvA cs bs):(∀w:List Nat,stpsM (cs++[.step w]) bs=stpsM cs bs++[w])∧∀(c:Pc) (b:List Nat×Vl),c.isStep=false->stpsM (cs++[c]) (bs++[b])=stpsM cs bs++stM c b.2:=by
 induction h with
 |nil=>exact⟨fun w=>rfl,fun c b hc=>by show stpsM [c] [b]=_;rw[gqg hc];simp[stpsM]⟩
 |step _ ih=>exact⟨fun w=>congrArg (_::·) (ih.1 w),fun c b hc=>congrArg (_::·) (ih.2 c b hc)⟩
 |@gap c' x cs bs h1 h2 _ ih=>
  refine⟨fun w=>?_,fun c b hc=>?_⟩
  ·show stpsM (c'::(cs++[.step w])) ((c'.name,x)::bs)=_
   rw[gqg h1,gqg h1,ih.1,append_assoc]
  ·show stpsM (c'::(cs++[c])) ((c'.name,x)::(bs++[b]))=_
   rw[gqg h1,gqg h1,ih.2 c b hc,append_assoc]
def sqn {cs:List Pc}(l:LastR cs)(i:Nat):LastR (cs.take i):=fun j c hc hr=>by
 rw[List.getElem?_take] at hc
 split at hc
 ·have h1:=l j c hc hr
  have h2:=(List.getElem?_eq_some_iff.mp hc).1
  rw[length_take]
  lia
 ·cases hc
theorem BndV.kvs {H:Hp}{l:Addr}{bs:List (List Nat×Vl)}{ys:List V}(h:BndV H l bs ys):∃kvs:List (Key×V),kvs.map (·.1)=bs.map (fun b=>(Sum.inr ⟨b.1.toArray⟩:Key))∧ys.length=kvs.length ∧
  (∀(i:Nat) (u:V),ys[i]?=some u->∃(a:Addr) (kv:Key×V),u=.ref a∧kvs[i]?=some kv∧H a=some (.tup [kV kv.1,kv.2]))∧∀b∈bs,∃w:V,((Sum.inr ⟨b.1.toArray⟩:Key),w)∈kvs∧VlV H b.2 w:=by
 induction h with
 |nil=>exact⟨[],rfl,rfl,fun i u hu=>by simp at hu,fun b hb=>by cases hb⟩
 |@cons n x p v bs ys h1 h2 h3 _ ih=>
  obtain⟨kvs,a1,a2,a3,a4⟩:=ih
  refine⟨(Sum.inr ⟨n.toArray⟩,v)::kvs,by rw[map_cons,map_cons,a1],by rw[length_cons,length_cons,a2],fun i u hu=>?_,fun b hb=>?_⟩
  ·cases i with
   |zero=>cases hu;exact⟨p,_,rfl,rfl,h1⟩
   |succ i=>exact a3 i u (by simpa using hu)
  ·rcases mem_cons.mp hb with z|z
   ·rw[z];exact⟨v,mem_cons_self ..,h2⟩
   ·obtain⟨w,w1,w2⟩:=a4 b z
    exact⟨w,mem_cons_of_mem _ w1,w2⟩
def SmV:Vl->Prop
 |.txt s=>s.length≤90
 |.int _=>True
 |.lst ls=>ls.length≤5∧∀s∈ls,s.length≤90
theorem zqL {c:Pc}{x:Vl}(ok:PcOk c)(hs:c.isStep=false)(h:GvOk c x)(sm:SmV x):(stM c x).length≤5∧∀s∈stM c x,s.length≤400:=by
 cases c with
 |step w=>cases hs
 |rest n=>
  obtain⟨ls,rfl,_⟩:=h
  exact⟨sm.1,fun s hs=>Nat.le_trans (sm.2 s hs) (by decide)⟩
 |num n=>
  obtain⟨s,e,hf,_⟩:=wqB ok rfl rfl h
  rw[e]
  exact⟨by simp,fun z hz=>by rw[mem_singleton.mp hz];have:=(qq0 hf).2.1;lia⟩
 |part a n t=>
  obtain⟨s,rfl,_⟩:=h
  obtain⟨o1,o2,_⟩:=ok
  have sm:s.length≤90:=sm
  exact⟨by show [_].length≤5;simp,fun z hz=>by rw[mem_singleton.mp (show z∈[a++s++t] from hz)];simp only[length_append];lia⟩
 |word n=>
  obtain⟨s,rfl,_⟩:=h
  have sm:s.length≤90:=sm
  exact⟨by show [_].length≤5;simp,fun z hz=>by rw[mem_singleton.mp (show z∈[[]++s++[]] from hz)];simp;lia⟩
 |gap n=>
  obtain⟨s,rfl,_⟩:=h
  have sm:s.length≤90:=sm
  exact⟨by show [_].length≤5;simp,fun z hz=>by rw[mem_singleton.mp (show z∈[[]++s++[]] from hz)];simp;lia⟩
theorem Aq2 {cs:List Pc}{bs:List (List Nat×Vl)}(h:GvA cs bs):(∀c∈cs,PcOk c)->(∀b∈bs,SmV b.2)->(stpsM cs bs).length≤5 * cs.length∧∀s∈stpsM cs bs,s.length≤400:=by
 induction h with
 |nil=>exact fun _ _=>⟨Nat.le_refl _,fun s hs=>by cases hs⟩
 |@step w cs bs _ ih=>
  intro ok sm
  obtain⟨i1,i2⟩:=ih (fun c hc=>ok c (mem_cons_of_mem _ hc)) sm
  have o:=(ok _ (mem_cons_self ..)).2.1
  refine⟨by show (w::stpsM cs bs).length≤_;rw[length_cons,length_cons];lia,fun s hs=>?_⟩
  rcases mem_cons.mp (show s∈w::stpsM cs bs from hs) with z|z
  ·rw[z];lia
  ·exact i2 s z
 |@gap c x cs bs hst hg _ ih=>
  intro ok sm
  obtain⟨i1,i2⟩:=ih (fun c hc=>ok c (mem_cons_of_mem _ hc)) (fun b hb=>sm b (mem_cons_of_mem _ hb))
  obtain⟨j1,j2⟩:=zqL (ok c (mem_cons_self ..)) hst hg (sm (c.name,x) (mem_cons_self ..))
  rw[gqg hst]
  refine⟨by rw[length_append,length_cons];have:(stM c (c.name,x).2).length≤5:=j1;lia,fun s hs=>?_⟩
  rcases mem_append.mp hs with z|z
  ·exact j2 s z
  ·exact i2 s z
end Wm
namespace L2
open PySem
section
variable {X:Cx}
def rStrU:List V->Hp->VK->Prop:=fun xs H Q=>(∃i:Int,xs=[.int i]∧i.natAbs.log2 < 1920∧Q (.str (toString i)) H)∨∃z:Str,xs=[.str z]∧Q (.str z) H
def sqP:CallR X (.type "str") rStrU:=by
 intro pins s σ H xs us Q I r h
 rcases h with⟨i,rfl,hz,q⟩|⟨z,rfl,q⟩
 ·exact hqh pins s σ H _ us Q I r ⟨i,rfl,hz,q⟩
 ·obtain⟨u,e9,t,rfl⟩:=vals1 r
  subst e9
  exact PySem.P.str_of_str ⟨.str z,H,I,⟨t,rfl⟩,q⟩
end
end L2
namespace Wm
open PySem L2
def Aqa {c:Pc}(h:c.isStep=true):∃w,c=.step w:=by cases c <;> first|exact⟨_,rfl⟩|cases h
def yqZ {c:Pc}(h:c.isPart=true):∃a n t,c=.part a n t:=by cases c <;> first|exact⟨_,_,_,rfl⟩|cases h
def zqM {c:Pc}(h:c.isRest=true):∃n,c=.rest n:=by cases c <;> first|exact⟨_,rfl⟩|cases h
def zqX {c:Pc}(h1:¬ c.isStep=true)(h2:¬ c.isPart=true)(h3:¬ c.isRest=true):(∃n,c=.num n)∨(∃n,c=.word n)∨∃n,c=.gap n:=by cases c <;> first|exact absurd rfl h1|exact absurd rfl h2|exact absurd rfl h3|exact .inl ⟨_,rfl⟩|exact .inr (.inl ⟨_,rfl⟩)|exact .inr (.inr ⟨_,rfl⟩)
def AqK {c:Pc}(h1:¬ c.isStep=true)(h2:¬ c.isPart=true):c.vals[1]?=some (tV c.name):=by cases c <;> first|exact absurd rfl h1|exact absurd rfl h2|rfl
theorem BndV.get {H:Hp}{l:Addr}{bs:List (List Nat×Vl)}{ys:List V}(hh:BndV H l bs ys){i:Nat}{v:V}(e:ys[i]?=some v):∃(b:List Nat×Vl) (p:Addr) (w:V),bs[i]?=some b∧v=.ref p∧H p=some (.tup [tV b.1,w])∧VlV H b.2 w∧∀q,w=.ref q->q≠l:=by
 induction hh generalizing i with
 |nil=>cases e
 |cons a b c _ ih=>
  cases i with
  |zero=>cases e;exact⟨_,_,_,rfl,rfl,a,b,c⟩
  |succ i=>exact ih e
def FrB (H0 H:Hp)(ys:List V):Prop:=∀v∈ys,∃(p:Addr) (a w:V),v=.ref p∧H p=some (.tup [a,w])∧∀q,w=.ref q->H0 q=none
def FrB.mono {H0 H H':Hp}{ys:List V}(s:SameT H H')(h:FrB H0 H ys):FrB H0 H' ys:=fun v hv=>by
 obtain⟨p,a,w,e,h1,h2⟩:=h v hv
 exact⟨p,a,w,e,s _ _ h1,h2⟩
def FrB.snoc {H0 H:Hp}{ys:List V}{p:Addr}{a w:V}(h:FrB H0 H ys)(hp:H p=some (.tup [a,w]))(hw:∀q,w=.ref q->H0 q=none):FrB H0 H (ys++[.ref p]):=fun v hv=>by
 rcases mem_append.mp hv with z|z
 ·exact h v z
 ·exact⟨p,a,w,mem_singleton.mp z,hp,hw⟩
def qqw {ps:List Pc}(h:∀c∈ps,c.isRest=false):LastR ps:=fun i c hc hr=>by
 rw[h c (mem_of_getElem? hc)] at hr
 cases hr
def rq2 {ps:List Pc}{d:Pc}(h:∀c∈ps,c.isRest=false):LastR (ps++[d]):=fun i c hc hr=>by
 by_cases hi:i < ps.length
 ·rw[List.getElem?_append_left hi] at hc
  rw[h c (mem_of_getElem? hc)] at hr
  cases hr
 ·have:=(List.getElem?_eq_some_iff.mp hc).1
  rw[length_append,length_singleton] at this ⊢
  lia
theorem Aqz (c:Pc):PyData.eqv (pcD c) (pcD c)=true:=by
 have eq:∀s:Str,PyData.eqv (.str s) (.str s)=true:=fun s=>by simp[PyData.eqv]
 have ac:∀(k:Str) (l:List Nat),PyData.eqv (.tuple [.str k,st l]) (.tuple [.str k,st l])=true:=fun k l=>jqG fun d hd=>by
  simp only[not_mem_nil,mem_cons,or_false] at hd
  rcases hd with rfl|rfl
  ·exact eq _
  ·exact kqp l
 cases c with
 |part h n t=>
  refine jqG fun d hd=>?_
  simp only[not_mem_nil,mem_cons,or_false] at hd
  rcases hd with rfl|rfl|rfl|rfl
  ·exact eq _
  ·exact kqp _
  ·exact kqp _
  ·exact kqp _
 |step s=>exact ac _ s
 |num n=>exact ac _ n
 |word n=>exact ac _ n
 |gap n=>exact ac _ n
 |rest n=>exact ac _ n
def pttD (p:List Pc×Bool):PyData:=.tuple [.tuple (p.1.map pcD),.bool p.2]
def rwD (t:Rw):PyData:=.tuple [st t.1,pttD t.2]
def PtAt.isD {H:Hp}{cs:List Pc}{e:Bool}{p:Addr}(h:PtAt H cs e p):Is H (pttD (cs,e)) (.ref p):=by
 obtain⟨q,xs,h1,h2,h3⟩:=h
 exact .tup h1 (.cons (.tup h2 h3.isT.is) (.cons (.bl _) .nil))
theorem TbV.isAll {H:Hp}:∀{T:List Rw}{ws:List V},TbV H T ws->IsAll H (T.map rwD) ws
 |_,_,.nil=>.nil
 |_,_,.cons ⟨a,p,e,h1,h2⟩ t=>.cons (by rw[e];exact .tup h1 (.cons (.str _) (.cons h2.isD .nil))) t.isAll
def TabOk (T:List Rw):Prop:=∀t∈T,(∀x∈t.1,isSg x=true)∧PcsOk t.2.1∧LastR t.2.1∧t.2.1.length≤5
theorem tqr {T:List Rw}(h:TabOk T):SeqAt.shaped (.list (T.map rwD))=true:=(layL (n:=4) fun d hd=>by
 obtain⟨t,ht,rfl⟩:=mem_map.mp hd
 obtain⟨h1,h2,_⟩:=h t ht
 refine LayAt.tup (n:=3) fun d hd=>?_
 simp only[not_mem_nil,mem_cons,or_false] at hd
 rcases hd with rfl|rfl
 ·exact (LayAt.st h1).le (by decide)
 ·refine LayAt.tup (n:=2) fun d hd=>?_
  simp only[not_mem_nil,mem_cons,or_false] at hd
  rcases hd with rfl|rfl
  ·exact vqy fun c hc=>(h2.2 c hc).2
  ·exact LayAt.bool.le (by decide)).shaped (by decide)
def zqj (T:List Rw):PyData.eqv (.list (T.map rwD)) (.list (T.map rwD))=true:=nq5 fun d hd=>by
 obtain⟨t,_,rfl⟩:=mem_map.mp hd
 refine jqG fun d hd=>?_
 simp only[not_mem_nil,mem_cons,or_false] at hd
 rcases hd with rfl|rfl
 ·exact kqp _
 ·refine jqG fun d hd=>?_
  simp only[not_mem_nil,mem_cons,or_false] at hd
  rcases hd with rfl|rfl
  ·exact jqG fun d hd=>by obtain⟨c,_,rfl⟩:=mem_map.mp hd;exact Aqz c
  ·exact vqD _
def tqv {cs:List Pc}{m:Nat}{n:List Nat}(hm:m < cs.length)(l:LastR cs):LastR (cs.take m++[.gap n]++cs.drop (m+1)):=by
 have e:cs.take m++[.gap n]++cs.drop (m+1)=cs.set m (.gap n):=by
  rw[List.set_eq_take_append_cons_drop,if_pos hm,append_assoc]
  rfl
 rw[e]
 intro i c hc hr
 rw[List.length_set]
 rw[List.getElem?_set] at hc
 split at hc
 ·cases hc
  cases hr
 ·exact l i c hc hr
def NmP (ns:List (List Nat))(cs:List Pc):Prop:=∀(i:Nat) (c:Pc),cs[i]?=some c->c.isStep=false->ns[i]?=some c.name
def NmP.take {ns:List (List Nat)}{cs:List Pc}(h:NmP ns cs)(n:Nat):NmP ns (cs.take n):=fun i c hc hs=>by
 rw[List.getElem?_take] at hc
 split at hc
 ·exact h i c hc hs
 ·cases hc
def NmP.snoc {ns:List (List Nat)}{cs:List Pc}{d:Pc}(h:NmP ns cs)(hd:d.isStep=false->ns[cs.length]?=some d.name):NmP ns (cs++[d]):=fun i c hc hs=>by
 by_cases hi:i < cs.length
 ·rw[List.getElem?_append_left hi] at hc
  exact h i c hc hs
 ·have:=(List.getElem?_eq_some_iff.mp hc).1
  rw[length_append,length_singleton] at this
  rw[List.getElem?_append_right (by lia),show i - cs.length=0 by lia] at hc
  cases hc
  rw[show i=cs.length by lia]
  exact hd hs
def NmP.put {ns:List (List Nat)}{cs:List Pc}{m:Nat}{n:List Nat}(h:NmP ns cs)(hm:m < cs.length)(hn:ns[m]?=some n):NmP ns (cs.take m++[.gap n]++cs.drop (m+1)):=by
 have e:cs.take m++[.gap n]++cs.drop (m+1)=cs.set m (.gap n):=by
  rw[List.set_eq_take_append_cons_drop,if_pos hm,append_assoc]
  rfl
 rw[e]
 intro i c hc hs
 rw[List.getElem?_set] at hc
 split at hc
 ·rename_i z
  cases hc
  rw[<- z]
  exact hn
 ·exact h i c hc hs
theorem tqO {ns:List (List Nat)}(hn:ns.Nodup){k:Nat}{n:List Nat}(hk:ns[k]?=some n):(List.range ns.length).filter (fun i=>decide (ns[i]?=some n))=[k]:=by
 have ad:=(List.getElem?_eq_some_iff.mp hk).1
 have ac:∀i,i∈(List.range ns.length).filter (fun i=>decide (ns[i]?=some n))↔i=k:=fun i=>by
  rw[mem_filter,mem_range,decide_eq_true_eq]
  refine⟨fun⟨h1,h2⟩=>?_,fun e=>by rw[e];exact⟨ad,hk⟩⟩
  obtain⟨a1,a2⟩:=List.getElem?_eq_some_iff.mp h2
  obtain⟨b1,b2⟩:=List.getElem?_eq_some_iff.mp hk
  rw[List.nodup_iff_pairwise_ne,List.pairwise_iff_getElem] at hn
  rcases Nat.lt_trichotomy i k with z|z|z
  ·exact absurd (a2.trans b2.symm) (hn i k a1 b1 z)
  ·exact z
  ·exact absurd (b2.trans a2.symm) (hn k i b1 a1 z)
 have nd:((List.range ns.length).filter (fun i=>decide (ns[i]?=some n))).Nodup:=List.nodup_range.filter _
 generalize (List.range ns.length).filter (fun i=>decide (ns[i]?=some n))=L at ac nd
 match L,ac,nd with
 |[],ac,_=>exact absurd ((ac k).mpr rfl) (by simp)
 |[a],ac,_=>rw[(ac a).mp (by simp)]
 |a::b::r,ac,nd=>
  have h1:=(ac a).mp (by simp)
  have h2:=(ac b).mp (by simp)
  rw[h1,h2] at nd
  simp at nd
def wqN {T:List Rw}(hn:(T.map (·.1)).Nodup){i j:Nat}{t u:Rw}(hi:T[i]?=some t)(hj:T[j]?=some u)(h:t.1=u.1):i=j:=by
 have a:(T.map (·.1))[i]?=some t.1:=by rw[List.getElem?_map,hi];rfl
 have b:(T.map (·.1))[j]?=some t.1:=by rw[List.getElem?_map,hj,h];rfl
 have:=tqO hn a
 have m:j∈(List.range (T.map (·.1)).length).filter (fun i=>decide ((T.map (·.1))[i]?=some t.1)):=mem_filter.mpr ⟨mem_range.mpr (List.getElem?_eq_some_iff.mp b).1,decide_eq_true b⟩
 rw[this] at m
 exact (mem_singleton.mp m).symm
def qq3 {cs:List Pc}{bs:List (List Nat×Vl)}{ws:List (List Nat×PyData)}(h:GvA cs bs)(ok:∀c∈cs,PcOk c)(l:LastR cs)(hn:∀b∈bs,named ws b.1=[vlD b.2]):fillF cs ws=.ok (stpsM cs bs):=by
 have hf:=yqH h ok l true
 have g:=qqP h ok l
 obtain⟨_,_,h3,_,h5⟩:=sq9 hf
 exact mqS (fun i c hc=>vqI hf hc) l h3 (fun s hs=>⟨(g.sg s hs).1,h5 s hs⟩) (fun n x hx=>by rw[g.bnd] at hx;exact hn _ hx)
theorem vqa {c:Pc}{x:Vl}{ws:List (List Nat×PyData)}(hs:c.isStep=false)(ok:PcOk c)(hx:GvOk c x)(hn:named ws c.name=[vlD x]):∃a,fillS c ws=.ok a:=by
 have h:=qq3 (ws:=ws) (GvA.gap hs hx .nil) (fun d hd=>by rw[mem_singleton.mp hd];exact ok) (fun i d hd _=>by
  have:=(List.getElem?_eq_some_iff.mp hd).1
  simp only[length_cons,length_nil] at this ⊢
  lia) (fun b hb=>by rw[mem_singleton.mp hb];exact hn)
 unfold fillF at h
 cases e:fillS c ws with
 |ok a=>exact⟨a,rfl⟩
 |error n=>rw[e] at h;cases h
theorem vqB {ws:List (List Nat×PyData)}{cs:List Pc}{bs:List (List Nat×Vl)}(h:GvA cs bs):(∀c∈cs,PcOk c)->∀{k:Nat}{b:List Nat×Vl},bs[k]?=some b->(∀b'∈bs.take k,named ws b'.1=[vlD b'.2])->named ws b.1=[]->fillF cs ws=.error b.1:=by
 induction h with
 |nil=>intro _ k b hb;simp at hb
 |@step w cs bs _ ih=>
  intro ok k b hb h1 h2
  have e:=ih (fun c hc=>ok c (mem_cons_of_mem _ hc)) hb h1 h2
  unfold fillF
  rw[e]
  rfl
 |@gap c x cs bs hst hg _ ih=>
  intro ok k b hb h1 h2
  cases k with
  |zero=>
   cases hb
   unfold fillF
   rw[lqL hst,h2]
  |succ k=>
   rw[List.getElem?_cons_succ] at hb
   rw[List.take_succ_cons] at h1
   have e:=ih (fun c hc=>ok c (mem_cons_of_mem _ hc)) hb (fun b' ac=>h1 b' (mem_cons_of_mem _ ac)) h2
   obtain⟨a,ha⟩:=vqa (ws:=ws) hst (ok c (mem_cons_self ..)) hg (h1 _ (mem_cons_self ..))
   unfold fillF
   rw[ha,e]
def lqm {bs:List (List Nat×Vl)}:(bs.map fun b=>(b.1,vlD b.2)).map (·.1)=bs.map (·.1):=by rw[map_map];rfl
theorem rqO {cs:List Pc}{bs:List (List Nat×Vl)}(h:GvA cs bs)(ok:∀c∈cs,PcOk c)(hn:(gapsM cs).Nodup){k:Nat}{b:List Nat×Vl}(hb:bs[k]?=some b):fillM cs ((bs.take k++bs.drop (k+1)).map fun b=>(b.1,vlD b.2))=.error b.1:=by
 have hN:(bs.map (·.1)).Nodup:=by rw[h.names];exact hn
 have eb:bs=bs.take k++b::bs.drop (k+1):=by
  obtain⟨h1,h2⟩:=List.getElem?_eq_some_iff.mp hb
  rw[<- h2,<- List.drop_eq_getElem_cons h1,take_append_drop]
 have ac:((bs.take k++bs.drop (k+1)).map (·.1)).Nodup∧b.1∉(bs.take k++bs.drop (k+1)).map (·.1):=by
  rw[eb,map_append,map_cons] at hN
  have hp:=(List.perm_middle (a:=b.1) (l₁:=(bs.take k).map (·.1)) (l₂:=(bs.drop (k+1)).map (·.1))).nodup_iff.mp hN
  rw[nodup_cons] at hp
  rw[map_append]
  exact⟨hp.2,hp.1⟩
 have e:=vqB (ws:=(bs.take k++bs.drop (k+1)).map fun b=>(b.1,vlD b.2)) h ok hb (fun b' ad=>lqh (by rw[lqm];exact ac.1) (mem_map.mpr ⟨b',mem_append_left _ ad,rfl⟩)) (mqK (by rw[lqm];exact ac.2))
 unfold fillM
 rw[e]
theorem uqQ {T:List Rw}(hn:(T.map (·.1)).Nodup){k:Nat}{t:Rw}(hk:T[k]?=some t):T.find? (fun u=>decide (u.1=t.1))=some t:=by
 cases h:T.find? (fun u=>decide (u.1=t.1)) with
 |none=>
  rw[List.find?_eq_none] at h
  exact absurd (decide_eq_true rfl) (h t (mem_of_getElem? hk))
 |some u=>
  have h1:=List.find?_some h
  obtain⟨i,hi,e⟩:=List.getElem_of_mem (List.mem_of_find?_eq_some h)
  have hu:T[i]?=some u:=List.getElem?_eq_some_iff.mpr ⟨hi,e⟩
  have:=wqN hn hu hk (of_decide_eq_true h1)
  rw[this,hk] at hu
  exact hu.symm
def wrsL (ss:List (List Nat)):Nat:=(ss.map fun s=>(wr s).length+1).sum
theorem sq8 {n:Nat}:∀{ss:List (List Nat)},(∀s∈ss,s.length≤400)->ss.length≤n->wrsL ss≤1201 * n
 |[],_,_=>Nat.zero_le _
 |s::ss,h,hn=>by
  cases n with
  |zero=>simp at hn
  |succ n=>
   have h1:=h s (mem_cons_self ..)
   have h2:=kqu s
   have h3:=sq8 (n:=n) (fun s hs=>h s (mem_cons_of_mem _ hs)) (by simpa using hn)
   show (wr s).length+1+wrsL ss≤_
   lia
theorem xqx (ss:List (List Nat)):(tlT 47 (ss.map wr)).length=wrsL ss:=by
 induction ss with
 |nil=>rfl
 |cons s ss ih=>
  show (47::(wr s++tlT 47 (ss.map wr))).length=(wr s).length+1+wrsL ss
  rw[length_cons,length_append,ih]
  lia
theorem vqR (ss:List (List Nat)):(joinT 47 (ss.map wr)).length≤wrsL ss:=by
 cases ss with
 |nil=>exact Nat.zero_le _
 |cons s ss=>
  show (wr s++tlT 47 (ss.map wr)).length≤(wr s).length+1+wrsL ss
  rw[length_append,xqx]
  lia
theorem xqr {x:Ad}(h:x.Wf)(hq:∀ps,x.quest=some ps->ps.length≤3∧∀p∈ps,p.1.length≤5∧∀v,p.2=some v->v.length≤6)(hm:∀l,x.mark=some l->l.length≤7)(hs:∀s∈x.steps,s.length≤400)(hn:x.steps.length≤25):x.Sz:=by
 have a1:(schT x.scheme).length≤9:=by
  unfold schT
  split
  ·simp
  ·have:=h.sch.1;simp only[length_append,length_cons,length_nil];lia
 have a2:(houT x.house).length≤182:=by
  cases hh:x.house with
  |none=>simp[houT]
  |some l=>have:=(h.hou l hh).1.2;have:=kqu l;simp only[houT,length_cons];lia
 have a3:(dooT x.door).length≤6:=by
  cases hh:x.door with
  |none=>simp[dooT]
  |some i=>have b:=(h.doo i hh).1;have:=wqk b.1 b.2;simp only[dooT,length_cons];lia
 have a4:x.wayT.length≤wrsL x.steps+2:=by
  have hj:=vqR x.steps
  have e1:(if x.rooted then [47] else []:List Nat).length≤1:=by split <;> simp
  have e2:(if x.ends && !x.steps.isEmpty then [47] else []:List Nat).length≤1:=by split <;> simp
  simp only[Ad.wayT,Wm.wayT,length_append]
  lia
 have a5:(queT x.quest).length≤106:=by
  cases hq1:x.quest with
  |none=>simp[queT]
  |some ps=>
   have hk:=hq ps hq1
   have hj:=sqb (sep:=38) (m:=34) (ys:=ps.map pairT) fun s hs=>by
    obtain⟨p,hp,rfl⟩:=mem_map.mp hs
    have h1:=(hk.2 p hp).1
    have h2:=wqu (sep:=61) (n:=6) (o:=p.2) fun v hv=>(hk.2 p hp).2 v hv
    have:=kqu p.1
    simp only[pairT,length_append]
    lia
   rw[length_map] at hj
   have:ps.length * (34+1)≤3 * 35:=Nat.mul_le_mul hk.1 (Nat.le_refl _)
   simp only[queT,length_cons]
   lia
 have a6:(oT 35 x.mark).length≤22:=by
  have:=wqu (sep:=35) (n:=7) (o:=x.mark) fun v hv=>hm v hv
  lia
 have a7:=sq8 hs hn
 refine⟨fun s ad=>by have:=hs s ad;lia,fun ps hp=>?_,fun l hl=>by have:=hm l hl;lia,by lia,?_⟩
 ·obtain⟨q1,q2⟩:=hq ps hp
  exact⟨by lia,fun p ac=>⟨by have:=(q2 p ac).1;lia,fun v hv=>by have:=(q2 p ac).2 v hv;lia⟩⟩
 ·unfold Ad.shw
  simp only[length_append]
  lia
def jq4 {α:Type}(L:List α)(f:α->V)(d:α)(z k:Int)(hk:k=(L.length:Int))(h0:0 < k):atI (L.map f) (z % k)=some (f (L.getD (z % k).toNat d)):=by
 have h1:=Int.emod_nonneg z (show k≠0 by lia)
 have h2:=Int.emod_lt_of_pos z h0
 obtain⟨j,hj⟩:∃j:Nat,z % k=(j:Int):=⟨(z % k).toNat,by lia⟩
 rw[hj,Int.toNat_natCast]
 have hl:j < L.length:=by lia
 exact aqs (by rw[List.getElem?_map,List.getD_eq_getElem?_getD,List.getElem?_eq_getElem hl];rfl)
theorem mq1 {H:Hp}:∀{ds:List PyData}{vs:List V},IsTAll H ds vs->∀{j:Nat}{v:V},vs[j]?=some v->∃d,ds[j]?=some d∧IsT H d v
 |_,_,.nil,j,v,h=>by simp at h
 |_,_,.cons q t,0,v,h=>by simp at h;subst h;exact⟨_,rfl,q⟩
 |_,_,.cons _ t,j+1,v,h=>by
  obtain⟨d,h1,h2⟩:=mq1 t (j:=j) (by simpa using h)
  exact⟨d,by simpa using h1,h2⟩
theorem mqF {H:Hp}:∀{ds:List PyData}{vs:List V},IsTAll H ds vs->vs.length=ds.length
 |_,_,.nil=>rfl
 |_,_,.cons _ t=>by rw[length_cons,length_cons,mqF t]
theorem uqk {α:Type}{H:Hp}{L:List α}{f:α->PyData}{vs:List V}(d:α)(z k:Int)(hv:IsTAll H (L.map f) vs)(hk:k=(L.length:Int))(h0:0 < k):∃v,atI vs (z % k)=some v∧IsT H (f (L.getD (z % k).toNat d)) v:=by
 have h1:=Int.emod_nonneg z (show k≠0 by lia)
 have h2:=Int.emod_lt_of_pos z h0
 obtain⟨j,hj⟩:∃j:Nat,z % k=(j:Int):=⟨(z % k).toNat,by lia⟩
 rw[hj,Int.toNat_natCast]
 have hl:j < L.length:=by lia
 have ad:=mqF hv
 rw[length_map] at ad
 obtain⟨v,ac⟩:∃v,vs[j]?=some v:=⟨_,List.getElem?_eq_getElem (by lia)⟩
 obtain⟨e,h3,h4⟩:=mq1 hv ac
 refine⟨v,aqs ac,?_⟩
 rw[List.getElem?_map,List.getElem?_eq_getElem hl] at h3
 cases h3
 rw[List.getD_eq_getElem?_getD,List.getElem?_eq_getElem hl]
 exact h4
theorem cqZ {α:Type}{P:α->Prop}:∀{L:List α}{d:α} (j:Nat),P d->(∀x∈L,P x)->P (L.getD j d)
 |[],d,j,hd,_=>by rw[List.getD_nil];exact hd
 |x::L,d,0,hd,h=>h x (mem_cons_self ..)
 |x::L,d,j+1,hd,h=>by rw[List.getD_cons_succ];exact cqZ j hd fun y hy=>h y (mem_cons_of_mem _ hy)
abbrev QuT:=Option (List (List Nat×Option (List Nat)))
def schL:List (List Nat):=[[],[120],[65,98,49],[97,98,99,100,101,102,103,104],[104,57]]
def houL (t:List Nat):List (Option (List Nat)):=[none,some (t++[104]),some [97,46,66,45,99],some [58,47,63,35,64]]
def dooL (c:Int):List (Option Int):=[none,some 0,some 80,some 65535,some (c / 20 % 65536)]
def stpL (t:List Nat):List (List (List Nat)):=[[],[[97]],[[46,46],[98,32,99]],[t++[115],[47],[46]]]
def queL (t:List Nat):List QuT:=[none,some [],some [([97],none),([98,38],some t)],some [([61],some [])]]
def marL (t:List Nat):List (Option (List Nat)):=[none,some [],some t,some [35,109]]
def que2L (t:List Nat):List QuT:=[none,some [],some [(t++[113],some t)],some [([63],none),([97,61],some [38])]]
def mar2L (t:List Nat):List (Option (List Nat)):=[none,some [],some t,some [109,35,47]]
def schB (c:Int):List Nat:=schL.getD (c % 5).toNat []
def houB (c:Int)(t:List Nat):Option (List Nat):=(houL t).getD (c / 5 % 4).toNat none
def dooB (c:Int)(t:List Nat):Option Int:=if houB c t=none then none else (dooL c).getD (c / 20 % 5).toNat none
def stpB (c:Int)(t:List Nat):List (List Nat):=(stpL t).getD (c / 100 % 4).toNat []
def rooB (c:Int)(t:List Nat):Bool:=!decide (schB c=[]) || (!decide (houB c t=none) || decide (c / 400 % 2=0))
def queB (c:Int)(t:List Nat):QuT:=(queL t).getD (c / 800 % 4).toNat none
def marB (c:Int)(t:List Nat):Option (List Nat):=(marL t).getD (c / 3200 % 4).toNat none
def endB (c:Int)(t:List Nat):Bool:=if stpB c t=[] then rooB c t else decide (c / 12800 % 2=1)
def baseM (c:Int)(t:List Nat):Ad:={ scheme:=schB c,house:=houB c t,door:=dooB c t,rooted:=rooB c t,steps:=stpB c t,ends:=endB c t,quest:=queB c t,mark:=marB c t}
def queU (c:Int)(t:List Nat):QuT:=if c % 3=0 then none else (que2L t).getD (c / 3 % 4).toNat none
def marU (c:Int)(t:List Nat):Option (List Nat):=if c % 3=0 then none else (mar2L t).getD (c / 12 % 4).toNat none
def Tx4 (t:List Nat):Prop:=t.length≤4∧∀x∈t,isSg x=true
def QSm (q:QuT):Prop:=∀ps,q=some ps->(ps.length≤3∧∀p∈ps,p.1.length≤5∧∀v,p.2=some v->v.length≤6)∧∀p∈ps,PairOk p
def MSm (m:Option (List Nat)):Prop:=∀l,m=some l->l.length≤7∧∀c∈l,isSg c=true
def sq2 {t:List Nat}{c:Nat}(h:∀x∈t,isSg x=true)(hc:isSg c=true):∀x∈t++[c],isSg x=true:=fun x hx=>by
 rcases mem_append.mp hx with z|z
 ·exact h x z
 ·rw[mem_singleton.mp z];exact hc
def xqc (c:Int):(schB c).length≤8∧(∀x∈schB c,isAln x=true)∧∀x∈(schB c).take 1,isLet x=true:=
 cqZ (P:=fun s:List Nat=>s.length≤8∧(∀x∈s,isAln x=true)∧∀x∈s.take 1,isLet x=true) _ (by decide) (by decide)
def wqY {t:List Nat}(h:Tx4 t)(c:Int):∀l,houB c t=some l->(0 < l.length∧l.length≤60)∧∀x∈l,isSg x=true:=
 cqZ (P:=fun s:Option (List Nat)=>∀l,s=some l->(0 < l.length∧l.length≤60)∧∀x∈l,isSg x=true) _ (fun l e=>by cases e) fun s hs l e=>by
  unfold houL at hs
  simp only[mem_cons,not_mem_nil,or_false] at hs
  rcases hs with rfl|rfl|rfl|rfl
  ·cases e
  ·cases e;have:=h.1;exact⟨by rw[length_append,length_singleton];lia,sq2 h.2 (by decide)⟩
  ·cases e;decide
  ·cases e;decide
def xqL {t:List Nat}(c:Int):∀i,dooB c t=some i->(0≤i∧i≤65535)∧houB c t≠none:=fun i e=>by
 unfold dooB at e
 split at e
 ·cases e
 ·next hn=>
  refine⟨?_,hn⟩
  revert e
  refine cqZ (P:=fun s:Option Int=>s=some i->0≤i∧i≤65535) _ (fun e=>by cases e) fun s hs e=>?_
  unfold dooL at hs
  simp only[mem_cons,not_mem_nil,or_false] at hs
  rcases hs with rfl|rfl|rfl|rfl|rfl
  ·cases e
  ·cases e;decide
  ·cases e;decide
  ·cases e;decide
  ·cases e;lia
theorem tqQ {t:List Nat}(h:Tx4 t)(c:Int):∀s∈stpB c t,StepOk s:=
 cqZ (P:=fun ss:List (List Nat)=>∀s∈ss,StepOk s) _ (fun s hs=>by cases hs) fun ss hs s hss=>by
  unfold stpL at hs
  simp only[mem_cons,not_mem_nil,or_false] at hs
  rcases hs with rfl|rfl|rfl|rfl
  ·cases hss
  ·rw[mem_singleton.mp hss];unfold StepOk;decide
  ·simp only[mem_cons,not_mem_nil,or_false] at hss
   rcases hss with rfl|rfl
   ·unfold StepOk;decide
   ·unfold StepOk;decide
  ·simp only[mem_cons,not_mem_nil,or_false] at hss
   rcases hss with rfl|rfl|rfl
   ·exact⟨by rw[length_append,length_singleton];lia,sq2 h.2 (by decide)⟩
   ·unfold StepOk;decide
   ·unfold StepOk;decide
theorem tq2 {t:List Nat}(h:Tx4 t){q:QuT}(hq:q∈queL t∨q∈que2L t):QSm q:=by
 have pd:∀{n:List Nat}{o:Option (List Nat)},(0 < n.length∧n.length≤5)∧(∀c∈n,isSg c=true)->(∀v,o=some v->v.length≤6∧∀c∈v,isSg c=true)->(n.length≤5∧∀v,o=some v->v.length≤6)∧PairOk (n,o):=fun h1 h2=>⟨⟨h1.1.2,fun v e=>(h2 v e).1⟩,⟨⟨h1.1.1,h1.2⟩,fun v e=>(h2 v e).2⟩⟩
 have ac:∀{ps:List (List Nat×Option (List Nat))},ps.length≤3->(∀p∈ps,(p.1.length≤5∧∀v,p.2=some v->v.length≤6)∧PairOk p)->QSm (some ps):=fun h1 h2 ad e=>by
  cases e
  exact⟨⟨h1,fun p hp=>(h2 p hp).1⟩,fun p hp=>(h2 p hp).2⟩
 have ht:t.length≤6∧∀c∈t,isSg c=true:=⟨by have:=h.1;lia,h.2⟩
 rcases hq with hq|hq
 ·unfold queL at hq
  simp only[mem_cons,not_mem_nil,or_false] at hq
  rcases hq with rfl|rfl|rfl|rfl
  ·intro ps e;cases e
  ·exact ac (by decide) fun p hp=>by cases hp
  ·refine ac (by simp) fun p hp=>?_
   simp only[mem_cons,not_mem_nil,or_false] at hp
   rcases hp with rfl|rfl
   ·exact pd (by decide) fun v e=>by cases e
   ·exact pd (show (0 < [98,38].length∧[98,38].length≤5)∧∀c∈[98,38],isSg c=true by decide) fun v e=>by cases e;exact ht
  ·refine ac (by decide) fun p hp=>?_
   rw[mem_singleton.mp hp]
   exact pd (by decide) fun v e=>by cases e;decide
 ·unfold que2L at hq
  simp only[mem_cons,not_mem_nil,or_false] at hq
  rcases hq with rfl|rfl|rfl|rfl
  ·intro ps e;cases e
  ·exact ac (by decide) fun p hp=>by cases hp
  ·refine ac (by simp) fun p hp=>?_
   rw[mem_singleton.mp hp]
   exact pd ⟨by rw[length_append,length_singleton];have:=h.1;lia,sq2 h.2 (by decide)⟩ fun v e=>by cases e;exact ht
  ·refine ac (by decide) fun p hp=>?_
   simp only[mem_cons,not_mem_nil,or_false] at hp
   rcases hp with rfl|rfl
   ·exact pd (by decide) fun v e=>by cases e
   ·exact pd (by decide) fun v e=>by cases e;decide
def tqT {t:List Nat}(h:Tx4 t){m:Option (List Nat)}(hm:m∈marL t∨m∈mar2L t):MSm m:=by
 intro l e
 unfold marL mar2L at hm
 simp only[mem_cons,not_mem_nil,or_false] at hm
 rcases hm with (rfl|rfl|rfl|rfl)|rfl|rfl|rfl|rfl
 ·cases e
 ·cases e;decide
 ·cases e;exact⟨by have:=h.1;lia,h.2⟩
 ·cases e;decide
 ·cases e
 ·cases e;decide
 ·cases e;exact⟨by have:=h.1;lia,h.2⟩
 ·cases e;decide
def yqL {t:List Nat}(h:Tx4 t)(c:Int):QSm (queB c t):=cqZ _ (fun ps e=>by cases e) fun q hq=>tq2 h (.inl hq)
def xqi {t:List Nat}(h:Tx4 t)(c:Int):MSm (marB c t):=cqZ _ (fun ps e=>by cases e) fun q hq=>tqT h (.inl hq)
def qqa {t:List Nat}(h:Tx4 t)(c:Int):QSm (queU c t):=by
 unfold queU
 split
 ·intro ps e;cases e
 ·exact cqZ _ (fun ps e=>by cases e) fun q hq=>tq2 h (.inr hq)
def pqR {t:List Nat}(h:Tx4 t)(c:Int):MSm (marU c t):=by
 unfold marU
 split
 ·intro ps e;cases e
 ·exact cqZ _ (fun ps e=>by cases e) fun q hq=>tqT h (.inr hq)
def vqo {t:List Nat}(h:Tx4 t)(c:Int):(baseM c t).Wf where
 sch:=xqc c
 hou:=wqY h c
 doo:=xqL c
 stp:=tqQ h c
 roo:=fun e=>by
  show rooB c t=true
  unfold rooB
  rcases e with e|e
  ·rw[decide_eq_false (show schB c≠[] from e)];rfl
  ·rw[decide_eq_false (show houB c t≠none from e)];simp
 end_:=fun e=>by
  show endB c t=rooB c t
  unfold endB
  rw[if_pos (show stpB c t=[] from e)]
 que:=fun ps e=>(yqL h c ps e).2
 mar:=fun l e=>(xqi h c l e).2
def xqH {cs:List Pc}{bs:List (List Nat×Vl)}(h:GvA cs bs)(ok:∀c∈cs,PcOk c)(l:LastR cs)(hn:(gapsM cs).Nodup):fillM cs (bs.map fun b=>(b.1,vlD b.2))=.ok (stpsM cs bs):=by
 have hN:(bs.map (·.1)).Nodup:=by rw[h.names];exact hn
 have e:=qq3 (ws:=bs.map fun b=>(b.1,vlD b.2)) h ok l (fun b hb=>lqh (by rw[lqm];exact hN) (mem_map.mpr ⟨b,hb,rfl⟩))
 unfold fillM
 rw[e,mqN (fun w hw=>by
  obtain⟨b,hb,rfl⟩:=mem_map.mp hw
  rw[<- h.names]
  exact mem_map_of_mem hb)]
def madeA (b:Ad)(ss:List (List Nat))(e:Bool)(q:QuT)(m:Option (List Nat)):Ad:={ scheme:=b.scheme,house:=b.house,door:=b.door,rooted:=true,steps:=ss,ends:=e,quest:=q,mark:=m}
def qqC {b:Ad}{ss:List (List Nat)}{e:Bool}{q:QuT}{m:Option (List Nat)}(hb:b.Wf)(hs:∀s∈ss,StepOk s)(he:ss=[]->e=true)(hq:QSm q)(hm:MSm m):(madeA b ss e q m).Wf where
 sch:=hb.sch
 hou:=hb.hou
 doo:=hb.doo
 stp:=hs
 roo:=fun _=>rfl
 end_:=he
 que:=fun ps h=>(hq ps h).2
 mar:=fun l h=>(hm l h).2
def uqF {b:Ad}{ss:List (List Nat)}{e:Bool}{q:QuT}{m:Option (List Nat)}(hb:b.Wf)(hs:∀s∈ss,StepOk s)(he:ss=[]->e=true)(hq:QSm q)(hm:MSm m)(h4:∀s∈ss,s.length≤400)(hn:ss.length≤25):(madeA b ss e q m).Sz:=
 xqr (qqC hb hs he hq hm) (fun ps h=>(hq ps h).1) (fun l h=>(hm l h).1) h4 hn
def top (i:Nat):Stmt:=PySem.Challenge.pw_waymark_k64_addresses_made.main.body.getD i (.Pass ⟨0,0,0,0⟩)
abbrev iqQ:Stmt:=top 16
abbrev jqd:Stmt:=top 17
abbrev cqE:Stmt:=top 19
abbrev cqD:Stmt:=top 20
abbrev hqM:Stmt:=top 35
abbrev bqP:Stmt:=top 38
abbrev aqS:Stmt:=inClass (top 43) 0
abbrev iqC:Stmt:=top 49
abbrev kq5:Stmt:=top 56
abbrev kq7:Stmt:=top 61
abbrev jqr:Stmt:=top 62
abbrev jqk:Stmt:=top 63
abbrev jqb:Stmt:=top 64
abbrev cqJ:Stmt:=top 76
abbrev aqZ:Stmt:=inClass (top 80) 0
abbrev bqf:Stmt:=inClass (top 80) 1
abbrev bqV:Stmt:=inClass (top 80) 3
abbrev bqh:Stmt:=inClass (top 80) 4
abbrev fq9:Stmt:=top 85
abbrev cq3:Stmt:=top 94
abbrev eqC:Stmt:=top 95
abbrev eqN:Stmt:=top 96
abbrev fqz:Stmt:=top 103
abbrev cq8:Stmt:=top 104
abbrev dq7:Stmt:=top 106
abbrev fqE:Stmt:=top 108
abbrev fq0:Stmt:=top 110
abbrev jqD:Stmt:=top 15
abbrev iqB:Stmt:=top 18
abbrev iqU:Stmt:=top 21
abbrev hqK:Stmt:=top 60
abbrev jqj:Stmt:=top 67
abbrev bq5:Stmt:=top 72
abbrev bqU:Stmt:=inClass (top 80) 2
abbrev gqf:Stmt:=top 97
abbrev fqX:Stmt:=top 36
abbrev cqa:Stmt:=top 37
abbrev dqH:Stmt:=top 47
abbrev fqU:Stmt:=top 48
abbrev dqP:Stmt:=top 51
abbrev eqK:Stmt:=top 52
abbrev cqH:Stmt:=top 73
abbrev fqa:Stmt:=top 84
abbrev eqP:Stmt:=top 92
abbrev gqd:Stmt:=top 98
abbrev cqf:Stmt:=top 50
abbrev dqZ:Stmt:=top 71
abbrev cq2:Stmt:=top 82
abbrev eqF:Stmt:=top 91
abbrev eq5:Stmt:=top 99
abbrev eqT:Stmt:=top 102
abbrev qqD:Stmt:=top 46
abbrev hqL:Stmt:=top 70
abbrev fqJ:Stmt:=top 86
abbrev dqO:Stmt:=top 88
abbrev eq9:Stmt:=top 89
abbrev bqr:Stmt:=top 90
abbrev eq1:Stmt:=top 101
abbrev dqS:Stmt:=top 105
abbrev dqe:Stmt:=top 69
abbrev dqN:Stmt:=top 83
abbrev bq4:Stmt:=top 87
abbrev eqJ:Stmt:=top 107
abbrev kqY:Stmt:=top 68
abbrev rqr:Stmt:=top 81
abbrev qqI:Stmt:=top 75
abbrev cq7:Stmt:=top 77
abbrev fqN:Stmt:=top 109
abbrev eqD:Stmt:=top 111
abbrev uqH:Stmt:=top 112
abbrev tq0:V:=.str (Str.ofString " !\"#$&'()*+,-./0123456789:;<=>?@ABCDEFGHIJKLMNOPQRSTUVWXYZ[\\]^_`abcdefghijklmnopqrstuvwxyz{|}~")
abbrev gqR:V:=.str (Str.ofString "abcdefghijklmnopqrstuvwxyz")
abbrev uqj:V:=.str (Str.ofString "abcdefghijklmnopqrstuvwxyzABCDEFGHIJKLMNOPQRSTUVWXYZ")
abbrev gqz:V:=.str (Str.ofString "abcdefghijklmnopqrstuvwxyzABCDEFGHIJKLMNOPQRSTUVWXYZ0123456789")
abbrev lqs:V:=.str (Str.ofString "0123456789")
abbrev pqT:V:=.str (Str.ofString "abcdefghijklmnopqrstuvwxyzABCDEFGHIJKLMNOPQRSTUVWXYZ0123456789-_.")
abbrev equ:V:=.str (Str.ofString "!$'()*,;@&=+")
abbrev aq2:V:=.str (Str.ofString "!$'()*,;@+/?:")
abbrev gqP:V:=.str (Str.ofString "!$'()*,;@&=+/?:")
abbrev hq0:V:=.int 32
abbrev nq2:V:=.int 126
abbrev fql:V:=.int 37
abbrev cqF:V:=.str (Str.ofString "0123456789abcdef")
abbrev hqc:V:=.str (Str.ofString "0123456789ABCDEF")
abbrev rqq:V:=.int 0
abbrev yqV:V:=.int 1
abbrev zq0:V:=.int 2
abbrev zqJ:V:=.int 3
abbrev rq7:V:=.int 4
abbrev zqV:V:=.int 5
abbrev vqi:V:=.int 0
abbrev xqP:V:=.int 1
abbrev zq4:V:=.int 2
abbrev kqR:V:=.int 8
abbrev lqz:V:=.int 60
abbrev pq2:V:=.int 65535
abbrev zqt:V:=.str (Str.ofString ".")
abbrev k_UP:V:=.str (Str.ofString "..")
abbrev rqj:V:=.int 0
abbrev vq0:V:=.int 1
abbrev mqf:V:=.int 60
abbrev gq8:V:=.str (Str.ofString "234567")
set_option genInjectivity false
set_option genSizeOf false
set_option genSizeOfSpec false
structure G (K:W.Frag)(mg:Str->Option Value) where
 iq7:Addr
 hqO:FuncData
 fqo:Fun K "made_of" "made_of" iqQ iq7 hqO
 gq0:mg "made_of"=some (.ref iq7)
 hqj:Binds K hqO ["text","signs"] []
 jqo:Addr
 hqE:FuncData
 lqg:Fun K "pair_of" "pair_of" jqd jqo hqE
 oqX:mg "pair_of"=some (.ref jqo)
 pqe:Binds K hqE ["sign"] []
 cqI:Addr
 cqc:FuncData
 cqP:Fun K "figure_number" "figure_number" cqE cqI cqc
 eql:mg "figure_number"=some (.ref cqI)
 eqq:Binds K cqc ["figure"] []
 cqN:Addr
 cqe:FuncData
 eqs:Fun K "sign_numbered" "sign_numbered" cqD cqN cqe
 gqB:mg "sign_numbered"=some (.ref cqN)
 gqF:Binds K cqe ["number"] []
 hqC:Addr
 gqj:FuncData
 hqB:Fun K "is_whole" "is_whole" hqM hqC gqj
 jqM:mg "is_whole"=some (.ref hqC)
 jqI:Binds K gqj ["address"] []
 bqX:Addr
 bqy:FuncData
 cqW:Fun K "is_whole_number" "is_whole_number" bqP bqX bqy
 fqw:mg "is_whole_number"=some (.ref bqX)
 fqj:Binds K bqy ["thing"] []
 bqx:Addr
 bqo:FuncData
 eqM:Fun K "__init__" "NoValue.__init__" aqS bqx bqo
 cqB:Binds K bqo ["self","name"] []
 iqT:Addr
 hqx:FuncData
 lqf:Fun K "slashed" "slashed" iqC iqT hqx
 oqN:mg "slashed"=some (.ref iqT)
 pqi:Binds K hqx ["rooted","texts","ends"] []
 kq1:Addr
 iqG:FuncData
 kq2:Fun K "is_dot" "is_dot" kq5 kq1 iqG
 nqX:mg "is_dot"=some (.ref kq1)
 nqI:Binds K iqG ["step"] []
 kq6:Addr
 jqi:FuncData
 kq3:Fun K "is_gap" "is_gap" kq7 kq6 jqi
 nq1:mg "is_gap"=some (.ref kq6)
 nqo:Binds K jqi ["piece"] []
 iqY:Addr
 hqN:FuncData
 gq7:Fun K "name_of" "name_of" jqr iqY hqN
 iqS:mg "name_of"=some (.ref iqY)
 jqu:Binds K hqN ["gap"] []
 jqC:Addr
 hqz:FuncData
 jqp:Fun K "head_of" "head_of" jqk jqC hqz
 lq5:mg "head_of"=some (.ref jqC)
 lqB:Binds K hqz ["piece"] []
 iqH:Addr
 hqJ:FuncData
 iq2:Fun K "tail_of" "tail_of" jqb iqH hqJ
 lqF:mg "tail_of"=some (.ref iqH)
 lq0:Binds K hqJ ["piece"] []
 cqL:Addr
 cqb:FuncData
 eqk:Fun K "pattern_named" "pattern_named" cqJ cqL cqb
 gqS:mg "pattern_named"=some (.ref cqL)
 gq2:Binds K cqb ["table","name"] []
 bqT:Addr
 bqw:FuncData
 fqr:Fun K "__init__" "Cursor.__init__" aqZ bqT bqw
 fqq:Binds K bqw ["self","text"] []
 cqy:Addr
 cqd:FuncData
 hql:Fun K "at_end" "Cursor.at_end" bqf cqy cqd
 eqr:Binds K cqd ["self"] []
 dq8:Addr
 dqd:FuncData
 jqc:Fun K "take" "Cursor.take" bqV dq8 dqd
 bqN:Binds K dqd ["self"] []
 cqx:Addr
 cqj:FuncData
 gqG:Fun K "passes" "Cursor.passes" bqh cqx cqj
 aqH:Binds K cqj ["self","text"] []
 fq8:Addr
 eqQ:FuncData
 fqL:Fun K "door_with" "door_with" fq9 fq8 eqQ
 iqw:mg "door_with"=some (.ref fq8)
 iqp:Binds K eqQ ["door","cursor"] []
 dqg:Addr
 cqq:FuncData
 aqY:Fun K "_law_cell_at" "_law_cell_at" cq3 dqg cqq
 bqa:mg "_law_cell_at"=some (.ref dqg)
 aq9:Binds K cqq ["_law_script","_law_k"] []
 fqc:Addr
 dq3:FuncData
 eqW:Fun K "_law_names" "_law_names" eqC fqc dq3
 gq6:mg "_law_names"=some (.ref fqc)
 hqg:Binds K dq3 ["_law_cell","_law_many"] []
 eqI:Addr
 eqa:FuncData
 hqe:Fun K "_law_signs" "_law_signs" eqN eqI eqa
 kqc:mg "_law_signs"=some (.ref eqI)
 kqq:Binds K eqa [] []
 fqS:Addr
 eq0:FuncData
 iqx:Fun K "_law_gaps" "_law_gaps" fqz fqS eq0
 lqO:mg "_law_gaps"=some (.ref fqS)
 lq9:Binds K eq0 ["_law_pattern_here"] []
 dqf:Addr
 cqC:FuncData
 fqh:Fun K "_law_name_of" "_law_name_of" cq8 dqf cqC
 iqb:mg "_law_name_of"=some (.ref dqf)
 hqV:Binds K cqC ["_law_piece_here"] []
 dqX:Addr
 cq6:FuncData
 fqG:Fun K "_law_filled" "_law_filled" dq7 dqX cq6
 jqf:mg "_law_filled"=some (.ref dqX)
 iq3:Binds K cq6 ["_law_pattern_here","_law_values_here"] []
 fqI:Addr
 eqE:FuncData
 gqh:Fun K "_law_base" "_law_base" fqE fqI eqE
 iqy:mg "_law_base"=some (.ref fqI)
 iqe:Binds K eqE ["_law_cell","_law_text_here"] []
 gqc:Addr
 eq8:FuncData
 iqm:Fun K "_law_more" "_law_more" fq0 gqc eq8
 lqJ:mg "_law_more"=some (.ref gqc)
 lqr:Binds K eq8 ["_law_cell","_law_text_here"] []
 jqs:Addr
 hqI:FuncData
 iqJ:Fun K "is_text" "is_text" jqD jqs hqI
 lqI:mg "is_text"=some (.ref jqs)
 lqv:Binds K hqI ["thing"] []
 jqh:Addr
 hqG:FuncData
 lqk:Fun K "sign_of" "sign_of" iqB jqh hqG
 oq8:mg "sign_of"=some (.ref jqh)
 pqn:Binds K hqG ["figures"] []
 iq8:Addr
 hqP:FuncData
 dql:Fun K "written" "written" iqU iq8 hqP
 eqm:mg "written"=some (.ref iq8)
 eqx:Binds K hqP ["text"] []
 hqA:Addr
 fqP:FuncData
 jq3:Fun K "names_of" "names_of" hqK hqA fqP
 mqQ:mg "names_of"=some (.ref hqA)
 mqI:Binds K fqP ["pieces"] []
 iq1:Addr
 hqF:FuncData
 lqA:Fun K "is_word" "is_word" jqj iq1 hqF
 oqU:mg "is_word"=some (.ref iq1)
 oqV:Binds K hqF ["text"] []
 bq6:Addr
 bqR:FuncData
 dqw:Fun K "steps_of_value" "steps_of_value" bq5 bq6 bqR
 gqt:mg "steps_of_value"=some (.ref bq6)
 gqm:Binds K bqR ["gap","value"] []
 dqM:Addr
 cq1:FuncData
 iq9:Fun K "sees" "Cursor.sees" bqU dqM cq1
 cqK:Binds K cq1 ["self","signs"] []
 fq2:Addr
 fqb:FuncData
 cql:Fun K "_law_text" "_law_text" gqf fq2 fqb
 cqU:mg "_law_text"=some (.ref fq2)
 cqV:Binds K fqb ["_law_cell"] []
 fqC:Addr
 eqZ:FuncData
 iqo:Fun K "is_scheme" "is_scheme" fqX fqC eqZ
 lqo:mg "is_scheme"=some (.ref fqC)
 lqq:Binds K eqZ ["thing"] []
 cqg:Addr
 bqL:FuncData
 cqi:Fun K "is_filled_text" "is_filled_text" cqa cqg bqL
 dqz:mg "is_filled_text"=some (.ref cqg)
 dqx:Binds K bqL ["thing"] []
 dqT:Addr
 dqk:FuncData
 fqY:Fun K "shown_house" "shown_house" dqH dqT dqk
 iqL:mg "shown_house"=some (.ref dqT)
 iq0:Binds K dqk ["house","door"] []
 fqD:Addr
 eq7:FuncData
 iqn:Fun K "shown_way" "shown_way" fqU fqD eq7
 lq7:mg "shown_way"=some (.ref fqD)
 lql:Binds K eq7 ["way"] []
 dq4:Addr
 cq0:FuncData
 fqH:Fun K "shown_asked" "shown_asked" dqP dq4 cq0
 iqK:mg "shown_asked"=some (.ref dq4)
 iqM:Binds K cq0 ["name","value"] []
 eqH:Addr
 dq2:FuncData
 hqf:Fun K "shown_mark" "shown_mark" eqK eqH dq2
 kqe:mg "shown_mark"=some (.ref eqH)
 kql:Binds K dq2 ["mark"] []
 cqt:Addr
 bq7:FuncData
 eqi:Fun K "refuse_others" "refuse_others" cqH cqt bq7
 gq5:mg "refuse_others"=some (.ref cqt)
 hqn:Binds K bq7 ["pattern","values"] []
 eqY:Addr
 dqQ:FuncData
 hqk:Fun K "taken_door" "taken_door" fqa eqY dqQ
 kqy:mg "taken_door"=some (.ref eqY)
 kqD:Binds K dqQ ["cursor"] []
 fqd:Addr
 dq1:FuncData
 gqD:Fun K "taken_pair" "taken_pair" eqP fqd dq1
 kqt:mg "taken_pair"=some (.ref fqd)
 kqx:Binds K dq1 ["cursor"] []
 fqT:Addr
 eqB:FuncData
 eqe:Fun K "_law_step" "_law_step" gqd fqT eqB
 fq7:mg "_law_step"=some (.ref fqT)
 fqR:Binds K eqB ["_law_cell"] []
 cqh:Addr
 bqK:FuncData
 dqB:Fun K "shown_question" "shown_question" cqf cqh bqK
 gqn:mg "shown_question"=some (.ref cqh)
 gqr:Binds K bqK ["question"] []
 dqK:Addr
 cqY:FuncData
 fqB:Fun K "can_be_step" "can_be_step" dqZ dqK cqY
 iqE:mg "can_be_step"=some (.ref dqK)
 jqe:Binds K cqY ["thing"] []
 dqj:Addr
 cqv:FuncData
 fqf:Fun K "taken_scheme" "taken_scheme" cq2 dqj cqv
 hqZ:mg "taken_scheme"=some (.ref dqj)
 hq8:Binds K cqv ["cursor"] []
 eq2:Addr
 cqQ:FuncData
 kqo:Addr
 mqC:Tok
 bql:FunD K "taken_text" "taken_text" eqF eq2 cqQ kqo
 bqO:Binds K cqQ ["cursor","free","most"] [.none]
 bqA:mg "taken_text"=some (.ref eq2)
 kqw:Binds K cqQ ["cursor","free","most"] []
 eqS:Addr
 dq6:FuncData
 gqW:Fun K "_law_piece" "_law_piece" eq5 eqS dq6
 kqE:mg "_law_piece"=some (.ref eqS)
 kqg:Binds K dq6 ["_law_cell","_law_name"] []
 eq6:Addr
 dqJ:FuncData
 gq4:Fun K "_law_value" "_law_value" eqT eq6 dqJ
 kqB:mg "_law_value"=some (.ref eq6)
 kqh:Binds K dqJ ["_law_piece_here","_law_cell"] []
 qqn:Addr
 nqt:FuncData
 tqH:Fun K "show" "show" qqD qqn nqt
 wqF:mg "show"=some (.ref qqn)
 wqI:Binds K nqt ["address"] []
 hqQ:Addr
 gqb:FuncData
 jq5:Fun K "is_value" "is_value" hqL hqQ gqb
 mq0:mg "is_value"=some (.ref hqQ)
 mqR:Binds K gqb ["gap","value"] []
 fqM:Addr
 eqG:FuncData
 iqv:Fun K "taken_way" "taken_way" fqJ fqM eqG
 mqa:mg "taken_way"=some (.ref fqM)
 lqW:Binds K eqG ["cursor","must_be_rooted"] []
 dqV:Addr
 dqc:FuncData
 dqR:Fun K "taken_value" "taken_value" dqO dqV dqc
 fqA:mg "taken_value"=some (.ref dqV)
 fq3:Binds K dqc ["cursor"] []
 eqL:Addr
 dq5:FuncData
 hqu:Fun K "taken_mark" "taken_mark" eq9 eqL dq5
 kqv:mg "taken_mark"=some (.ref eqL)
 kqz:Binds K dq5 ["cursor"] []
 bqp:Addr
 aqU:FuncData
 eqd:Addr
 hqr:Tok
 bqn:FunD K "taken_filled_text" "taken_filled_text" bqr bqp aqU eqd
 dqF:Binds K aqU ["cursor","free","most"] [.none]
 cqn:mg "taken_filled_text"=some (.ref bqp)
 eqn:Binds K aqU ["cursor","free","most"] []
 eqX:Addr
 dq0:FuncData
 hqo:Fun K "_law_small" "_law_small" eq1 eqX dq0
 jq9:mg "_law_small"=some (.ref eqX)
 kqf:Binds K dq0 ["_law_cell","_law_names_here"] []
 dqU:Addr
 dqa:FuncData
 fqW:Fun K "_law_values" "_law_values" dqS dqU dqa
 iqZ:mg "_law_values"=some (.ref dqU)
 iqA:Binds K dqa ["_law_pattern_here","_law_cells"] []
 dqi:Addr
 cqM:FuncData
 fqi:Fun K "filled_steps" "filled_steps" dqe dqi cqM
 hq9:mg "filled_steps"=some (.ref dqi)
 hqT:Binds K cqM ["piece","values"] []
 dqI:Addr
 cq5:FuncData
 fqF:Fun K "taken_house" "taken_house" dqN dqI cq5
 iqP:mg "taken_house"=some (.ref dqI)
 iqF:Binds K cq5 ["cursor"] []
 bq9:Addr
 bqM:FuncData
 dqu:Fun K "taken_question" "taken_question" bq4 bq9 bqM
 gqv:mg "taken_question"=some (.ref bq9)
 gqq:Binds K bqM ["cursor"] []
 eqR:Addr
 dqW:FuncData
 hqi:Fun K "_law_table" "_law_table" eqJ eqR dqW
 kqd:mg "_law_table"=some (.ref eqR)
 kqj:Binds K dqW ["_law_script","_law_names_here","_law_labels","_law_first","_law_many"] []
 kqZ:Addr
 jql:FuncData
 nqU:Fun K "filled" "filled" kqY kqZ jql
 qqU:mg "filled"=some (.ref kqZ)
 qqO:Binds K jql ["pattern","values"] []
 rqa:Addr
 nqQ:FuncData
 tqP:Fun K "read" "read" rqr rqa nqQ
 wqr:mg "read"=some (.ref rqa)
 wqq:Binds K nqQ ["text"] []
 qq8:Addr
 nqG:FuncData
 tqi:Fun K "made" "made" qqI qq8 nqG
 wqo:mg "made"=some (.ref qq8)
 wqh:Binds K nqG ["table","name","values"] []
 dqb:Addr
 bqG:FuncData
 iqa:Addr
 kqU:Tok
 kqH:Tok
 cq9:FunD K "made_address" "made_address" cq7 dqb bqG iqa
 gqV:Binds K bqG ["table","base","name","values","question","mark"] [.none,.none]
 fqe:mg "made_address"=some (.ref dqb)
 hq7:Binds K bqG ["table","base","name","values","question","mark"] []
 fq4:Addr
 eqO:FuncData
 gqe:Fun K "_law_told" "_law_told" fqN fq4 eqO
 iqu:mg "_law_told"=some (.ref fq4)
 iqg:Binds K eqO ["_law_table_here","_law_base_here","_law_name","_law_values_here","_law_more_here"] []
 eq4:Addr
 dqL:FuncData
 gq9:Fun K "_law_asked" "_law_asked" eqD eq4 dqL
 kqs:mg "_law_asked"=some (.ref eq4)
 kqm:Binds K dqL ["_law_table_here","_law_k","_law_cell","_law_odd"] []
 vqC:Addr
 oq5:FuncData
 AqF:Fun K "law" "law" uqH vqC oq5
 AqO:mg "law"=some (.ref vqC)
 AqQ:Binds K oq5 ["_law_script"] []
 aqt:Addr
 aqo:Cls K aqt
 aqW:NoAttr K aqt "text"
 aqD:NoAttr K aqt "place"
 qqv:mg "Cursor"=some (.ref aqt)
 qqs:Mk K aqt bqT
 dqt:Meth K aqt "at_end" cqy
 bqv:Meth K aqt "take" dq8
 aqC:Meth K aqt "passes" cqx
 bq2:Meth K aqt "sees" dqM
 lqd:Tok
 pqV:mg "SIGNS"=some (.str (Str.ofString " !\"#$&'()*+,-./0123456789:;<=>?@ABCDEFGHIJKLMNOPQRSTUVWXYZ[\\]^_`abcdefghijklmnopqrstuvwxyz{|}~") lqd)
 bqz:Tok
 gqJ:mg "SMALL_LETTERS"=some (.str (Str.ofString "abcdefghijklmnopqrstuvwxyz") bqz)
 gqQ:Tok
 oqG:mg "LETTERS"=some (.str (Str.ofString "abcdefghijklmnopqrstuvwxyzABCDEFGHIJKLMNOPQRSTUVWXYZ") gqQ)
 aqQ:Tok
 dqs:mg "LETTERS_AND_FIGURES"=some (.str (Str.ofString "abcdefghijklmnopqrstuvwxyzABCDEFGHIJKLMNOPQRSTUVWXYZ0123456789") aqQ)
 gqL:Tok
 lqY:mg "FIGURES"=some (.str (Str.ofString "0123456789") gqL)
 lqp:Tok
 pqY:mg "PLAIN"=some (.str (Str.ofString "abcdefghijklmnopqrstuvwxyzABCDEFGHIJKLMNOPQRSTUVWXYZ0123456789-_.") lqp)
 bqI:Tok
 eqz:mg "FREE_IN_STEPS"=some (.str (Str.ofString "!$'()*,;@&=+") bqI)
 aq1:Tok
 bqq:mg "FREE_IN_QUESTIONS"=some (.str (Str.ofString "!$'()*,;@+/?:") aq1)
 bqD:Tok
 gq3:mg "FREE_IN_MARKS"=some (.str (Str.ofString "!$'()*,;@&=+/?:") bqD)
 bq1:Tok
 fqg:mg "FIRST_NUMBER"=some (.int 32 bq1)
 cqG:Tok
 iq4:mg "LAST_NUMBER"=some (.int 126 cqG)
 bqj:Tok
 cqT:mg "NUMBER_LEFT_OUT"=some (.int 37 bqj)
 bqB:Tok
 bqC:mg "SMALL_FIGURES"=some (.str (Str.ofString "0123456789abcdef") bqB)
 bqF:Tok
 eqt:mg "GREAT_FIGURES"=some (.str (Str.ofString "0123456789ABCDEF") bqF)
 jqg:Tok
 nqN:mg "SCHEME"=some (.int 0 jqg)
 lqX:Tok
 uqd:mg "HOUSE"=some (.int 1 lqX)
 oq6:Tok
 wqD:mg "DOOR"=some (.int 2 oq6)
 tqd:Tok
 yqx:mg "WAY"=some (.int 3 tqd)
 fqv:Tok
 mqZ:mg "QUESTION"=some (.int 4 fqv)
 pqd:Tok
 wqC:mg "MARK"=some (.int 5 pqd)
 iq5:Tok
 rqn:mg "ROOTED"=some (.int 0 iq5)
 mqc:Tok
 tql:mg "STEPS"=some (.int 1 mqc)
 oqv:Tok
 wqm:mg "ENDS"=some (.int 2 oqv)
 bqt:Tok
 gqy:mg "LONGEST_SCHEME"=some (.int 8 bqt)
 bqE:Tok
 gqN:mg "LONGEST_HOUSE"=some (.int 60 bqE)
 eqh:Tok
 lqR:mg "LAST_DOOR"=some (.int 65535 eqh)
 oqu:Tok
 wqf:mg "STAY"=some (.str (Str.ofString ".") oqu)
 t_UP:Tok
 c_UP:mg "UP"=some (.str (Str.ofString "..") t_UP)
 iqN:Tok
 nqL:mg "PIECES"=some (.int 0 iqN)
 jqv:Tok
 qqW:mg "CLOSES"=some (.int 1 jqv)
 bq0:Tok
 hqW:mg "LONGEST_WORD"=some (.int 60 bq0)
 bqH:Tok
 gqA:mg "FIRST_FIGURES"=some (.str (Str.ofString "234567") bqH)
 wq9:mg "all"=none
 zqq:mg "ord"=none
 bqm:mg "isinstance"=none
 wqd:mg "bool"=none
 vqV:mg "int"=none
 fqn:mg "len"=none
 iqr:mg "range"=none
 gqM:mg "tuple"=none
 pq0:mg "str"=none
 wqc:mg "dict"=none
 qqQ:mg "list"=none
 iqf:mg "enumerate"=none
 cqw:Addr
 nqA:mg "NoBase"=some (.ref cqw)
 bqW:Addr
 nqg:mg "NoName"=some (.ref bqW)
 aqK:Addr
 jqq:mg "NoValue"=some (.ref aqK)
 qqm:excInJ K cqw vErr vNew none=true
 qq4:excInJ K bqW vErr vNew none=true
 qqZ:Catch K cqw
 rqs:Catch K bqW
 pqx:Catch K aqK
 vqH:ExLook K cqw
 vqv:ExLook K bqW
 tqm:ExLook K aqK
 lqC:Mk1 K aqK bqx
 gqZ:ExSt K aqK "name"
 hqt:ExFld K aqK "name"
 gqT:W.subIn K (.ref cqw) (.ref cqw)=some true
 gqY:W.subIn K (.ref bqW) (.ref bqW)=some true
 fqy:W.subIn K (.ref aqK) (.ref aqK)=some true
 lqU:W.subIn K (.ref cqw) (.ref bqW)=some false
 gqH:W.subIn K (.ref bqW) (.ref cqw)=some false
 gqx:W.subIn K (.ref aqK) (.ref cqw)=some false
 gql:W.subIn K (.ref aqK) (.ref bqW)=some false
def sqk:Sp:=fun vs H Q _=>∃x y:Str,vs=[.str x,.str y]∧x.length≤100000∧∀H',Same H H'->Q (.bl (x.cps.toList.all fun c=>decide (c∈y.cps.toList))) H'
def nqd:Sp:=fun vs H Q _=>∃c:Nat,vs=[one c]∧c < 256∧Q (.str ⟨[126,hexd (c / 16),hexd (c % 16)].toArray⟩) H
def gqk:Sp:=fun vs H Q _=>∃a:Nat,vs=[one a]∧a < 128∧Q (figV a) H
def kqS:Sp:=fun vs H Q _=>∃n:Nat,vs=[.int (n:Int)]∧Q (sgV n) H
def qqi (K:W.Frag):Sp:=fun vs H Q _=>∃(p:Addr) (l:List Nat) (r:List V),vs=[.ref p]∧SqT K H p (.str ⟨l.toArray⟩::r)∧Q (.bl (!decide (l=[]))) H
def jqw:Sp:=fun vs H Q _=>∃(d:PyData) (v:V),vs=[v]∧Is H d v∧Q (.bl (match d with|.int _=>true|_=>false)) H
def cqm (K:W.Frag)(C:Addr):Sp:=fun vs H Q _=>∃(a:Addr) (v:V),vs=[.ref a,v]∧H a=some (exNew a C)∧∀d,H d=none->Q .non (upd (upd H a (exSet a C d)) d (.xd [("name",v)]))
theorem mq7 {K:W.Frag}{C:Addr}{H:Hp}{E:XK}{v:V}(hE:∀d H',Same H H'->H' d=some (.xd [("name",v)])->E (.ref C) (some d) H'):∀a,H a=none->cqm K C [.ref a,v] (upd H a (exNew a C)) (fun u H2=>u=.non∧∃d,H2 a=some (exSet a C d)∧E (.ref C) (some d) (forget H2 a)) E0:=by
 intro a ha
 refine⟨a,v,rfl,aqm,fun d hd=>?_⟩
 have hda:d≠a:=fun z=>by rw[z,aqm] at hd;cases hd
 rw[aqp hda] at hd
 refine⟨rfl,d,by rw[aqp hda.symm,aqm],hE d _ (fun b o e=>?_) ?_⟩
 ·have ba:b≠a:=aqn e ha
  rw[cqr ba,aqp (aqn e hd),aqp ba,aqp ba]
  exact e
 ·rw[cqr hda,aqm]
def sqa (K:W.Frag):Sp:=fun vs H Q _=>∃(r e:Bool) (p:Addr) (ts:List (List Nat)),vs=[.bl r,.ref p,.bl e]∧SqL K H p (ts.map fun l=>V.str ⟨l.toArray⟩)∧(joinT 47 ts).length≤90000∧Q (.str ⟨(slT r ts e).toArray⟩) H
def oqZ:Sp:=fun vs H Q _=>∃s:Stp,vs=[sV s]∧Q (.bl (isDot s)) H
def tq9 (K:W.Frag):Sp:=fun vs H Q _=>∃(c:Pc) (p:Addr),vs=[.ref p]∧SqT K H p c.vals∧Q (.bl (!c.isStep)) H
def mqH (K:W.Frag):Sp:=fun vs H Q _=>∃(c:Pc) (p:Addr),vs=[.ref p]∧SqT K H p c.vals∧c.isStep=false∧Q (tV c.name) H
def rqv (K:W.Frag):Sp:=fun vs H Q _=>∃(c:Pc) (p:Addr),vs=[.ref p]∧SqT K H p c.vals∧Q (tV c.head) H
def rqR (K:W.Frag):Sp:=fun vs H Q _=>∃(c:Pc) (p:Addr),vs=[.ref p]∧SqT K H p c.vals∧Q (tV c.tail) H
def jqU (K:W.Frag)(CN:Addr):Sp:=fun vs H Q E=>∃(l:Addr) (T:List Rw) (ws:List V) (n:List Nat),vs=[.ref l,tV n]∧H l=some (.lst ws)∧TbV H T ws∧(∀t,T.find? (fun t=>decide (t.1=n))=some t->∀(p:Addr) (H':Hp),Same H H'->PtAt H' t.2.1 t.2.2 p->Q (.ref p) H')∧(T.find? (fun t=>decide (t.1=n))=none->∀H',Same H H'->E (.ref CN) none H')
def iqW (K:W.Frag)(C:Addr):Sp:=fun vs H Q _=>∃(p dx:Addr) (t:List Nat),vs=[.ref p,.str ⟨t.toArray⟩]∧H p=some (.ins C dx [])∧∀H',SameBut p H H'->Cur H' C p t 0->Q .non H'
def kqQ (K:W.Frag)(C:Addr):Sp:=fun vs H Q _=>∃(p:Addr) (t:List Nat) (i:Nat),vs=[.ref p]∧Cur H C p t i∧t.length≤100000∧Q (.bl (decide (i=t.length))) H
def mqs (K:W.Frag)(C:Addr):Sp:=fun vs H Q _=>∃(p:Addr) (t:List Nat) (i c:Nat),vs=[.ref p]∧Cur H C p t i∧t[i]?=some c∧t.length≤100000∧∀H',SameBut p H H'->Cur H' C p t (i+1)->Q (.str ⟨#[c]⟩) H'
def bq8 (K:W.Frag)(C:Addr):Sp:=fun vs H Q _=>∃(p:Addr) (t w:List Nat) (i:Nat),vs=[.ref p,.str ⟨w.toArray⟩]∧Cur H C p t i∧i≤t.length∧t.length≤100000∧((t.drop i).take w.length=w->∀H',SameBut p H H'->Cur H' C p t (i+w.length)->Q (.bl true) H')∧(¬ (t.drop i).take w.length=w->Q (.bl false) H)
def oqm (K:W.Frag)(C:Addr):Sp:=fun vs H Q _=>∃(p:Addr) (t:List Nat) (i c n:Nat),vs=[.int (n:Int),.ref p]∧Cur H C p t i∧t.length≤100000∧t[i]?=some c∧48≤c∧c≤57∧n≤100000∧Q (.int ((n * 10+(c - 48):Nat):Int)) H
def lqN (K:W.Frag):Sp:=fun vs H Q _=>∃(a:Addr) (ns:List Int) (k:Nat),vs=[.ref a,.int (k:Int)]∧SqL K H a (ns.map V.int)∧Q (.int (ns.getD k 0)) H
def nqJ (K:W.Frag):Sp:=fun vs H Q _=>∃(c:Int) (m:Nat),vs=[.int c,.int (m:Int)]∧m≤26∧∀(ns:List (List Nat)) (p:Addr) (H':Hp),ns.length=m->(∀n∈ns,0 < n.length∧n.length≤8∧n.all isSma=true)->ns.Nodup->Same H H'->H' p=some (.lst (ns.map tV))->Q (.ref p) H'
def jqn:Sp:=fun vs H Q _=>vs=[]∧Q (.str ⟨SG.toArray⟩) H
def oqR (K:W.Frag):Sp:=fun vs H Q _=>∃(cs:List Pc) (e:Bool) (p:Addr),vs=[.ref p]∧PtAt H cs e p∧cs.length≤90∧∀(l:Addr) (ys:List V) (H':Hp),H l=none->Same H H'->H' l=some (.lst ys)->PcT H' (cs.filter fun c=>!c.isStep) ys->Q (.ref l) H'
def lqP (K:W.Frag):Sp:=fun vs H Q _=>∃(c:Pc) (p:Addr),vs=[.ref p]∧SqT K H p c.vals∧c.isStep=false∧Q (tV c.name) H
def mqg (K:W.Frag):Sp:=fun vs H Q _=>∃(cs:List Pc) (e:Bool) (p l l0:Addr) (bs:List (List Nat×Vl)) (ys:List V),vs=[.ref p,.ref l]∧PtAt H cs e p∧(∀c∈cs,PcOk c)∧LastR cs∧cs.length≤12∧GvA cs bs∧(gapsM cs).Nodup∧H l=some (.lst ys)∧BndV H l0 bs ys∧∀(pw ps:Addr) (H':Hp),Same H H'->H' pw=some (.tup [.bl true,.ref ps,.bl e])->H' ps=some (.tup ((stpsM cs bs).map tV))->Q (.ref pw) H'
def oqQ (K:W.Frag):Sp:=fun vs H Q _=>∃(c:Int) (t:List Nat),vs=[.int c,tV t]∧Tx4 t∧∀(v:V) (H':Hp),Same H H'->IsT H' (baseM c t).data v->Q v H'
def pqg (K:W.Frag):Sp:=fun vs H Q _=>∃(c:Int) (t:List Nat),vs=[.int c,tV t]∧Tx4 t∧(c % 3=0->∀(l:Addr) (H':Hp),Same H H'->H' l=some (.lst [])->Q (.ref l) H')∧(¬ c % 3=0->∀(l:Addr) (vq:V) (H':Hp),Same H H'->H' l=some (.lst [vq,otV (marU c t)])->IsT H' (qD (queU c t)) vq->Q (.ref l) H')
def rq5:Sp:=fun vs H Q _=>∃(d:PyData) (v:V),vs=[v]∧Is H d v∧smallD d=true∧∀H',Same H H'->Q (.bl (tx d)) H'
def mqW:Sp:=fun vs H Q _=>∃l:List Nat,vs=[.str ⟨l.toArray⟩]∧l.length≤1000∧(∀c∈l,c < 128)∧Q (signOfL l) H
def fqp:Sp:=fun vs H Q _=>∃l:List Nat,vs=[.str ⟨l.toArray⟩]∧l.length≤2000∧(∀c∈l,isSg c=true)∧∀H',Same H H'->Q (.str ⟨(wr l).toArray⟩) H'
def pqU (K:W.Frag):Sp:=fun vs H Q _=>∃(cs:List Pc) (xs:List V) (q:Addr),vs=[.ref q]∧SqT K H q xs∧PcAll K H cs xs∧cs.length≤1000∧∀(p:Addr) (H':Hp),Same H H'->H' p=some (.lst ((gapsM cs).map tV))->Q (.ref p) H'
def rqF:Sp:=fun vs H Q _=>∃(l:List Nat),vs=[tV l]∧l.length≤100000∧∀H',Same H H'->Q (.bl (wordB l)) H'
def jqT (K:W.Frag):Sp:=fun vs H Q _=>∃(c:Pc) (p:Addr) (d:PyData) (v:V),vs=[.ref p,v]∧SqT K H p c.vals∧c.isStep=false∧c.head.length≤100000∧c.tail.length≤100000∧Is H d v∧smallD d=true∧isValD c d=true∧∀(q:Addr) (H':Hp),Same H H'->H' q=some (.lst ((stpsD c d).map tV))->Q (.ref q) H'
def mqi (K:W.Frag)(C:Addr):Sp:=fun vs H Q _=>∃(p:Addr) (t sg:List Nat) (i:Nat),vs=[.ref p,.str ⟨sg.toArray⟩]∧Cur H C p t i∧i≤t.length∧t.length≤100000∧Q (.bl (seesB t sg i)) H
def oqP (K:W.Frag):Sp:=fun vs H Q _=>∃c:Int,vs=[.int c]∧∀(l:List Nat) (H':Hp),l.length≤4->(∀c∈l,isSg c=true)->Same H H'->Q (tV l) H'
def pql:Sp:=fun vs H Q _=>∃(d:PyData) (v:V),vs=[v]∧Is H d v∧smallD d=true∧∀H',Same H H'->Q (.bl (schD d)) H'
def jqX:Sp:=fun vs H Q _=>∃(d:PyData) (v:V),vs=[v]∧Is H d v∧smallD d=true∧∀H',Same H H'->Q (.bl (ftx d)) H'
def mqy:Sp:=fun vs H Q _=>∃(o:Option (List Nat)) (d:Option Int),vs=[otV o,itV d]∧(∀l,o=some l->l.length≤60∧∀c∈l,isSg c=true)∧(∀i,d=some i->(0≤i∧i≤65535)∧o≠none)∧∀H',Same H H'->Q (.str ⟨(houT o++dooT d).toArray⟩) H'
def pqs (K:W.Frag):Sp:=fun vs H Q _=>∃(r e:Bool) (ss:List (List Nat)) (p q:Addr),vs=[.ref p]∧SqT K H p [.bl r,.ref q,.bl e]∧SqT K H q (ss.map fun l=>V.str ⟨l.toArray⟩)∧(∀s∈ss,s.length≤2000∧∀c∈s,isSg c=true)∧ss.length≤2000∧(wayT r ss e).length≤90000∧∀H',Same H H'->Q (.str ⟨(wayT r ss e).toArray⟩) H'
def mqx:Sp:=fun vs H Q _=>∃(n:List Nat) (o:Option (List Nat)),vs=[.str ⟨n.toArray⟩,otV o]∧PairOk (n,o)∧n.length≤2000∧(∀l,o=some l->l.length≤2000)∧∀H',Same H H'->Q (.str ⟨(pairT (n,o)).toArray⟩) H'
def nqW:Sp:=fun vs H Q _=>∃o:Option (List Nat),vs=[otV o]∧(∀l,o=some l->l.length≤2000∧∀c∈l,isSg c=true)∧∀H',Same H H'->Q (.str ⟨(oT 35 o).toArray⟩) H'
def jqL (K:W.Frag)(CN:Addr):Sp:=fun vs H Q E=>∃(cs:List Pc) (xs:List V) (p q pz:Addr) (cl:Bool) (ws:List (List Nat×PyData)) (ys:List V),vs=[.ref p,.ref pz]∧SqT K H p [.ref q,.bl cl]∧SqT K H q xs∧PcAll K H cs xs∧cs.length≤100∧H pz=some (.lst ys)∧VlsV H ws ys∧ws.length≤100000 ∧
 (otherM cs ws=none->∀H',Same H H'->Q .non H')∧∀n,otherM cs ws=some n->∀d H',Same H H'->H' d=some (.xd [("name",tV n)])->E (.ref CN) (some d) H'
def nqx (K:W.Frag)(C:Addr):Sp:=fun vs H Q _=>∃(p:Addr) (t w r:List Nat) (i:Nat) (o:Option Int),vs=[.ref p]∧Cur H C p t i∧i≤t.length∧t.length≤100000∧(∀c∈t,c < 128)∧t.drop i=w++r∧DooW o w∧(∀c,r.head?=some c->¬ (48≤c∧c≤57))∧(o=none->r.head?≠some 58)∧∀H',SameBut p H H'->Cur H' C p t (i+w.length)->Q (itV o) H'
def nqS (K:W.Frag)(C:Addr):Sp:=fun vs H Q _=>∃(p:Addr) (t r:List Nat) (i a b c:Nat),vs=[.ref p]∧Cur H C p t i∧t.drop i=a::b::r∧sgO a b=some c∧t.length≤100000∧∀H',SameBut p H H'->Cur H' C p t (i+2)->Q (.str ⟨#[c]⟩) H'
def oqn (K:W.Frag):Sp:=fun vs H Q _=>∃c:Int,vs=[.int c]∧∀(l:List Nat) (H':Hp),0 < l.length->l.length≤5->(∀c∈l,isSg c=true)->isDot l=false->Same H H'->Q (tV l) H'
def jqY (K:W.Frag):Sp:=fun vs H Q _=>∃(q:Option (List (List Nat×Option (List Nat)))) (v:V),vs=[v]∧IsK K H (qD q) v∧(∀ps,q=some ps->ps.length≤2000∧∀p∈ps,PairOk p∧p.1.length≤2000∧∀l,p.2=some l->l.length≤2000)∧(queT q).length≤90000∧∀H',Same H H'->Q (.str ⟨(queT q).toArray⟩) H'
def mqh (K:W.Frag):Sp:=fun vs H Q _=>∃(d:PyData) (v:V),vs=[v]∧Is H d v∧smallD d=true∧∀H',Same H H'->Q (.bl (canD d)) H'
def lqj (K:W.Frag)(C:Addr):Sp:=fun vs H Q _=>∃(p:Addr) (t:List Nat),vs=[.ref p]∧Cur H C p t 0∧t.length≤90000∧∀H',SameBut p H H'->Cur H' C p t (schP t)->Q (.str ⟨(schM t).toArray⟩) H'
def oqd (K:W.Frag)(C:Addr):Sp:=fun vs H Q _=>∃(p:Addr) (t fr s w r:List Nat) (i:Nat) (mo:Option Nat),vs=[.ref p,.str ⟨fr.toArray⟩,moV mo]∧Cur H C p t i∧i≤t.length∧t.length≤100000∧(∀c∈t,c < 128)∧fr.length≤100∧t.drop i=w++r∧WrT fr s w∧(Stops fr r∨mo=some s.length)∧(∀m,mo=some m->s.length≤m) ∧
 ∀H',SameBut p H H'->Cur H' C p t (i+w.length)->Q (.str ⟨s.toArray⟩) H'
def oqf (K:W.Frag):Sp:=fun vs H Q _=>∃(c:Int) (n:List Nat),vs=[.int c,tV n]∧∀(pc:Pc) (p:Addr) (H':Hp),PcOk pc->pc.isRest=false->(pc.isStep=false->pc.name=n)->Same H H'->H' p=some (.tup pc.vals)->Q (.ref p) H'
def nq9 (K:W.Frag):Sp:=fun vs H Q _=>∃(c:Pc) (p:Addr) (i:Int),vs=[.ref p,.int i]∧H p=some (.tup c.vals)∧PcOk c∧c.isStep=false∧∀(x:Vl) (v:V) (H':Hp),GvOk c x->SmV x->Same H H'->VlV H' x v->(∀q,v=.ref q->H q=none)->Q v H'
def yqR (K:W.Frag):Sp:=fun vs H Q _=>∃(x:Ad) (v:V),vs=[v]∧IsK K H x.data v∧x.Wf∧x.Sz∧∀H',Same H H'->Q (.str ⟨x.shw.toArray⟩) H'
def pq4 (K:W.Frag):Sp:=fun vs H Q _=>∃(c:Pc) (p:Addr) (d:PyData) (v:V),vs=[.ref p,v]∧SqT K H p c.vals∧c.isStep=false∧c.head.length≤100000∧c.tail.length≤100000∧Is H d v∧smallD d=true∧∀H',Same H H'->Q (.bl (isValD c d)) H'
def kqi (K:W.Frag)(C:Addr):Sp:=fun vs H Q _=>∃(p:Addr) (t v rest:List Nat) (i:Nat) (must r:Bool) (ss:List (List Nat)) (e:Bool),vs=[.ref p,.bl must]∧Cur H C p t i∧i≤t.length∧t.length≤100000∧(∀c∈t,c < 128)∧t.drop i=(if r then [47] else [])++(v++rest)∧StpW ss e v∧(ss=[]->e=r)∧(must=true->r=true)∧Stops frS rest∧rest.head?≠some 47 ∧
 ∀(u:V) (H':Hp),SameBut p H H'->Cur H' C p t (t.length - rest.length)->IsT H' (wayOf (r,ss,e)) u->Q u H'
def mqB (K:W.Frag)(C:Addr):Sp:=fun vs H Q _=>∃(p:Addr) (t w r:List Nat) (i:Nat) (o:Option (List Nat)),vs=[.ref p]∧Cur H C p t i∧i≤t.length∧t.length≤100000∧(∀c∈t,c < 128)∧t.drop i=w++r∧ValW o w∧Stops frQ r∧r.head?≠some 61∧∀H',SameBut p H H'->Cur H' C p t (i+w.length)->Q (otV o) H'
def nqm (K:W.Frag)(C:Addr):Sp:=fun vs H Q _=>∃(p:Addr) (t w:List Nat) (i:Nat) (o:Option (List Nat)),vs=[.ref p]∧Cur H C p t i∧i≤t.length∧t.length≤100000∧(∀c∈t,c < 128)∧t.drop i=w∧MarW o w∧∀H',SameBut p H H'->Cur H' C p t t.length->Q (otV o) H'
def hqS (K:W.Frag)(C:Addr):Sp:=fun vs H Q _=>∃(p:Addr) (t fr s w r:List Nat) (i:Nat) (mo:Option Nat),vs=[.ref p,.str ⟨fr.toArray⟩,moV mo]∧Cur H C p t i∧i≤t.length∧t.length≤100000∧(∀c∈t,c < 128)∧fr.length≤100∧t.drop i=w++r∧WrT fr s w∧s≠[]∧(Stops fr r∨mo=some s.length)∧(∀m,mo=some m->s.length≤m) ∧
 ∀H',SameBut p H H'->Cur H' C p t (i+w.length)->Q (.str ⟨s.toArray⟩) H'
def nq8 (K:W.Frag):Sp:=fun vs H Q _=>∃(c:Int) (pn:Addr) (ns:List (List Nat)),vs=[.int c,.ref pn]∧H pn=some (.lst (ns.map tV))∧5≤ns.length∧ns.length≤100∧(∀n∈ns,∀x∈n,isSg x=true)∧∀(ps:List Pc) (e:Bool) (p:Addr) (H':Hp),(∀c∈ps,PcOk c∧PcSg c)->LastR ps->NmP ns ps->ps.length≤5->(ps=[]->e=true)->Same H H'->PtAt H' ps e p->Q (.ref p) H'
def mqt (K:W.Frag):Sp:=fun vs H Q _=>∃(cs:List Pc) (e:Bool) (p pc:Addr) (is:List Int),vs=[.ref p,.ref pc]∧PtAt H cs e p∧(∀c∈cs,PcOk c)∧cs.length≤12∧SqL K H pc (is.map V.int)∧0 < is.length∧is.length≤100∧∀(bs:List (List Nat×Vl)) (l:Addr) (ys:List V) (H':Hp),GvA cs bs->(∀b∈bs,SmV b.2)->H l=none->FrB H H' ys->Same H H'->H' l=some (.lst ys)->BndV H' l bs ys->Q (.ref l) H'
def kqK (K:W.Frag)(CN:Addr):Sp:=fun vs H Q E=>∃(c:Pc) (p pz:Addr) (ws:List (List Nat×PyData)) (ys:List V),vs=[.ref p,.ref pz]∧SqT K H p c.vals∧c.head.length≤100000∧c.tail.length≤100000∧H pz=some (.lst ys)∧VlsV H ws ys∧ws.length≤100000∧(∀w∈ws,smallD w.2=true) ∧
 (∀ss,fillS c ws=.ok ss->∀(q:Addr) (H':Hp),Same H H'->H' q=some (.lst (ss.map tV))->Q (.ref q) H') ∧
 ∀n,fillS c ws=.error n->∀d H',Same H H'->H' d=some (.xd [("name",tV n)])->E (.ref CN) (some d) H'
def mqo (K:W.Frag)(C:Addr):Sp:=fun vs H Q _=>∃(p:Addr) (t w r:List Nat) (i:Nat) (o:Option (List Nat)),vs=[.ref p]∧Cur H C p t i∧i≤t.length∧t.length≤100000∧(∀c∈t,c < 128)∧t.drop i=w++r∧HouW o w∧(o≠none->Stops [] r)∧(o=none->¬ r.take 2=[47,47])∧∀H',SameBut p H H'->Cur H' C p t (i+w.length)->Q (otV o) H'
def jqW (K:W.Frag)(C:Addr):Sp:=fun vs H Q _=>∃(p:Addr) (t w rest:List Nat) (i:Nat) (qs:Option (List (List Nat×Option (List Nat)))),vs=[.ref p]∧Cur H C p t i∧i≤t.length∧t.length≤100000∧(∀c∈t,c < 128)∧t.drop i=w++rest∧QueW qs w∧(rest=[]∨∃r,rest=35::r) ∧
 ∀(u:V) (H':Hp),SameBut p H H'->Cur H' C p t (t.length - rest.length)->IsT H' (qD qs) u->Q u H'
def nqs (K:W.Frag):Sp:=fun vs H Q _=>∃(a pn pl:Addr) (ns:List Int) (nm lb:List (List Nat)) (m:Nat),vs=[.ref a,.ref pn,.ref pl,.int 3,.int (m:Int)]∧SqL K H a (ns.map V.int)∧H pn=some (.lst (nm.map tV))∧nm.length=6∧(∀n∈nm,∀x∈n,isSg x=true)∧H pl=some (.lst (lb.map tV))∧16≤lb.length∧(∀n∈lb,∀x∈n,isSg x=true)∧m≤16∧∀(T:List Rw) (ws:List V) (l:Addr) (H':Hp),H l=none->Same H H'->H' l=some (.lst ws)->TbV H' T ws->TabOk T->T.length=m->(∀t∈T,NmP nm t.2.1)->T.map (·.1)=lb.take m->(∀t∈T,t.2.1=[]->t.2.2=true)->Q (.ref l) H'
def rq6 (K:W.Frag)(CN:Addr):Sp:=fun vs H Q E=>∃(cs:List Pc) (xs:List V) (p q pz:Addr) (cl:Bool) (ws:List (List Nat×PyData)) (ys:List V),vs=[.ref p,.ref pz]∧SqT K H p [.ref q,.bl cl]∧SqT K H q xs∧PcAll K H cs xs∧cs.length≤100∧PcSz cs∧H pz=some (.lst ys)∧VlsV H ws ys∧ws.length≤100000∧(∀w∈ws,smallD w.2=true) ∧
 (∀ss,fillM cs ws=.ok ss->∀(pw qw:Addr) (H':Hp),Same H H'->H' qw=some (.tup (ss.map tV))->H' pw=some (.tup [.bl true,.ref qw,.bl cl])->Q (.ref pw) H')∧∀n,fillM cs ws=.error n->∀d H',Same H H'->H' d=some (.xd [("name",tV n)])->E (.ref CN) (some d) H'
def wq7 (K:W.Frag):Sp:=fun vs H Q _=>∃(x:Ad) (t:List Nat),vs=[.str ⟨t.toArray⟩]∧t.length≤90000∧(∀c∈t,c < 128)∧x.Wf∧RdW x t∧∀(u:V) (H':Hp),Same H H'->IsT H' x.data u->Q u H'
def vqk (K:W.Frag)(CN CV:Addr):Sp:=fun vs H Q E=>∃(l lv:Addr) (T:List Rw) (ws:List V) (n:List Nat) (wz:List (List Nat×PyData)) (ys:List V),vs=[.ref l,tV n,.ref lv]∧H l=some (.lst ws)∧TbV H T ws∧(∀t∈T,PcsOk t.2.1)∧H lv=some (.lst ys)∧VlsV H wz ys∧wz.length≤100000∧(∀w∈wz,smallD w.2=true) ∧
 (T.find? (fun t=>decide (t.1=n))=none->∀H',Same H H'->E (.ref CN) none H') ∧
 ∀t,T.find? (fun t=>decide (t.1=n))=some t->(∀ss,fillM t.2.1 wz=.ok ss->∀(pw qw:Addr) (H':Hp),Same H H'->H' qw=some (.tup (ss.map tV))->H' pw=some (.tup [.bl true,.ref qw,.bl t.2.2])->Q (.ref pw) H')∧∀z,fillM t.2.1 wz=.error z->∀d H',Same H H'->H' d=some (.xd [("name",tV z)])->E (.ref CV) (some d) H'
def kqP (K:W.Frag)(CB CN CV:Addr):Sp:=fun vs H Q E=>∃(l lv:Addr) (T:List Rw) (ws:List V) (n:List Nat) (wz:List (List Nat×PyData)) (ys:List V) (x:Ad) (vb vq vm:V),vs=[.ref l,vb,tV n,.ref lv,vq,vm]∧IsT H x.data vb∧H l=some (.lst ws)∧TbV H T ws∧(∀t∈T,PcsOk t.2.1)∧H lv=some (.lst ys)∧VlsV H wz ys∧wz.length≤100000∧(∀w∈wz,smallD w.2=true) ∧
 (x.scheme=[]->∀H',Same H H'->E (.ref CB) none H')∧(x.scheme≠[] ->
 (T.find? (fun t=>decide (t.1=n))=none->∀H',Same H H'->E (.ref CN) none H') ∧
 ∀t,T.find? (fun t=>decide (t.1=n))=some t->(∀ss,fillM t.2.1 wz=.ok ss->∀(p pw qw:Addr) (H':Hp),Same H H'->H' qw=some (.tup (ss.map tV))->H' pw=some (.tup [.bl true,.ref qw,.bl t.2.2])->H' p=some (.tup [tV x.scheme,otV x.house,itV x.door,.ref pw,vq,vm])->Q (.ref p) H')∧∀z,fillM t.2.1 wz=.error z->∀d H',Same H H'->H' d=some (.xd [("name",tV z)])->E (.ref CV) (some d) H')
def pqv (K:W.Frag):Sp:=fun vs H Q _=>∃(l lv lm:Addr) (T:List Rw) (ws:List V) (n:List Nat) (wz:List (List Nat×PyData)) (ys ms:List V) (x:Ad) (vb vq vm:V) (q:QuT) (m:Option (List Nat)),vs=[.ref l,vb,tV n,.ref lv,.ref lm]∧IsT H x.data vb∧H l=some (.lst ws)∧TbV H T ws∧(∀t∈T,PcsOk t.2.1)∧H lv=some (.lst ys)∧VlsV H wz ys∧wz.length≤100000∧(∀w∈wz,smallD w.2=true)∧H lm=some (.lst ms)∧((ms=[]∧vq=.non∧vm=.non)∨(ms=[vq,vm]∧IsT H (qD q) vq∧IsT H (oD m) vm∧QSm q∧MSm m)) ∧
 (x.scheme=[]->∀(p:Addr) (H':Hp),Same H H'->H' p=some (.tup [.non,.str (Str.ofString "base")])->Q (.ref p) H')∧(x.scheme≠[] ->
 (T.find? (fun t=>decide (t.1=n))=none->∀(p:Addr) (H':Hp),Same H H'->H' p=some (.tup [.non,.str (Str.ofString "name")])->Q (.ref p) H') ∧
 ∀t,T.find? (fun t=>decide (t.1=n))=some t->(∀ss,fillM t.2.1 wz=.ok ss->∀(p pa pw qw:Addr) (H':Hp),Same H H'->H' qw=some (.tup (ss.map tV))->H' pw=some (.tup [.bl true,.ref qw,.bl t.2.2])->H' pa=some (.tup [tV x.scheme,otV x.house,itV x.door,.ref pw,vq,vm])->H' p=some (.tup [.ref pa,tV []])->Q (.ref p) H')∧∀z,fillM t.2.1 wz=.error z->z.length≤1000∧∀(p:Addr) (H':Hp),Same H H'->H' p=some (.tup [.non,tV (z++[32,108,97,99,107,115])])->Q (.ref p) H')
def nq3 (K:W.Frag):Sp:=fun vs H Q _=>∃(l:Addr) (T:List Rw) (ws:List V) (kk:Nat) (c:Int) (odd:List Nat),vs=[.ref l,.int (kk:Int),.int c,tV odd]∧H l=some (.lst ws)∧TbV H T ws∧TabOk T∧T.length≤20∧(T.map (·.1)).Nodup∧(∀t∈T,((gapsM t.2.1).Nodup∧[]∉gapsM t.2.1∧∀n∈gapsM t.2.1,n.length≤8)∧(t.2.1=[]->t.2.2=true))∧kk < T.length∧T.find? (fun t=>decide (t.1=odd))=none∧∀H',Same H H'->Q (.bl true) H'
def rqc (K:W.Frag):Sp:=fun vs H Q _=>∃(a:Addr) (ns:List Int),vs=[.ref a]∧SqL K H a (ns.map V.int)∧ns.length≤63∧∀H',Q (.bl true) H'
section
variable {H:Hp}{Q:VK}{E:XK}{K:W.Frag}
def zqp {c:Nat}:nqd [.str ⟨[c].toArray⟩] H Q E↔c < 256∧Q (.str ⟨[126,hexd (c / 16),hexd (c % 16)].toArray⟩) H:=
 ⟨fun⟨_,e,h⟩=>by injection e with e;injection e with e;cases dqC.mp e;exact h,fun h=>⟨c,rfl,h⟩⟩
def AqZ {c:Nat}:gqk [.str ⟨[c].toArray⟩] H Q E↔c < 128∧Q (figV c) H:=
 ⟨fun⟨_,e,h⟩=>by injection e with e;injection e with e;cases dqC.mp e;exact h,fun h=>⟨c,rfl,h⟩⟩
def wqS:jqn [] H Q E↔Q (.str ⟨SG.toArray⟩) H:=⟨fun h=>h.2,fun h=>⟨rfl,h⟩⟩
def tqN {l:List Nat}:mqW [.str ⟨l.toArray⟩] H Q E↔l.length≤1000∧(∀c∈l,c < 128)∧Q (signOfL l) H:=
 ⟨fun⟨_,e,h⟩=>by injection e with e;injection e with e;cases dqC.mp e;exact h,fun h=>⟨l,rfl,h⟩⟩
def sq6 {l:List Nat}:fqp [.str ⟨l.toArray⟩] H Q E↔l.length≤2000∧(∀c∈l,isSg c=true)∧∀H',Same H H'->Q (.str ⟨(wr l).toArray⟩) H':=
 ⟨fun⟨_,e,h⟩=>by injection e with e;injection e with e;cases dqC.mp e;exact h,fun h=>⟨l,rfl,h⟩⟩
end
section
variable {P:Program}{w:World}{K:W.Frag}{mg:Str->Option Value}{base:Heap}
seal PE PA PT PS PSs PG PI PF PO PW
local macro_rules|`(tactic| walk_at "rd")=>`(tactic| simp only[L2.start,map_cons,map_nil,length_cons,length_nil,Nat.reduceAdd,Nat.reduceSub,Nat.zero_add,replicate_succ,List.replicate_zero,L2.Aqt,L2.rd_C,L2.sqC,L2.Aqv,L2.vqT,L2.Aqs,L2.xq2,L2.zqs,L2.xqa,L2.AqD,L2.yq3,L2.xqh,L2.AqJ,L2.yqN,L2.rd_B,L2.zqi,L2.AqH,L2.zqm,L2.yqb,L2.zqK,L2.yqC,L2.AqP,L2.vqc,L2.zqC,L2.yqk,L2.AqA,L2.Aqx,L2.yqy,L2.wqW,L2.wq8,L2.dqA,L2.yqS,L2.yqs,L2.yqj,L2.vqz,L2.wq3,L2.AqL,L2.AqI,L2.zqw,L2.AqV,L2.tqe,L2.yql,L2.vqd,L2.rd_I,L2.uqR,L2.xqz,L2.aq0,L2.yqm,L2.uqx,L2.nqY,L2.xqb,L2.wq0,L2.yqW,L2.uqB,L2.xqw,L2.xqC,L2.vqZ,L2.AqC,L2.zqR,L2.zq1,L2.uqt,L2.zqx,L2.xqs,L2.uqS,L2.xqK,L2.vql,L2.uqK,L2.tqo,L2.vqw,L2.uqY,L2.sqK,L2.sqf,L2.jqS,L2.kqI,L2.kqF,L2.jqR,L2.iqD,L2.nqz,L2.oqp,L2.pqa,L2.nqv,L2.mqq,L2.pqo,L2.pqM,L2.pq7,L2.oqx,L2.nqC,L2.pqj,L2.pqS,L2.pqJ,L2.oqC,L2.nq7,L2.nqy,L2.oqE,L2.oqt,L2.nqM,L2.mqn,L2.mqD,L2.nqe,L2.nqH,L2.mqm,L2.lqH,L2.xqS,L2.yqn,L2.uqC,L2.yqJ,L2.xqf,L2.cx_K,L2.Aql,L2.zqI,L2.Aqy,L2.Aqm,L2.zqZ,L2.sqY,L2.yq9,L2.AqU,L2.zqf,L2.uqf,L2.Aq0,L2.AqM,L2.AqR,L2.vqn,L2.wqa,L2.yqt,L2.vqr,Option.getD_some,L2.Aqg,L2.AqW,L2.rd_U,L2.zqG,L2.xqj,L2.vq6,L2.wqU,L2.pqE,L2.yqh,L2.zql,L2.zqB,L2.xqd,L2.xqy,L2.xq3,L2.wqO,List.getElem?_cons_zero,List.getElem?_cons_succ,List.set_cons_zero,List.set_cons_succ,nil_append,cons_append,append_nil,Option.some.injEq,exists_eq_left,exists_eq_left',true_and,and_true,L2.V.bl.injEq,L2.V.int.injEq,L2.V.str.injEq,L2.V.ref.injEq,List.cons.injEq,reduceCtorEq,false_and,and_false,exists_false,false_or,or_false,decide_eq_true_eq,Bool.not_true,Bool.not_false,↓reduceIte,if_true,if_false,not_true_eq_false,not_false_eq_true,decide_true,decide_false,Bool.false_eq_true,zqp,AqZ,wqS,tqN,sq6,L2.vqS,L2.xqg,L2.vqt,L2.vqP,L2.zq2,yq1,L2.yq5,L2.vqu,L2.AqX,L2.xqu,L2.vqL,L2.vqs,L2.vqf,L2.AqS,L2.tqu,L2.yqM,L2.yq2,L2.qqk,L2.zqD,L2.Aqf,L2.yqB,L2.zqa,L2.wqz,L2.Aqw,L2.xq7,L2.wqQ,L2.wqZ,L2.yqE,L2.xq9,L2.tqw,L2.tq4,L2.vq2,L2.rqU,L2.uqP,L2.rqy,L2.rqN,L2.qqk,L2.sqO,L2.xq5,L2.rqu,L2.Aqp,L2.xqE,L2.xqW,L2.uqG,L2.xqo,L2.yqd,L2.xqB,L2.xqJ,L2.yqa,L2.yqc,L2.yqu,L2.yqr,L2.zqE,L2.wqj,L2.sqN,L2.zqr,L2.yqg,L2.wqL,L2.xq1,L2.yqe,L2.vq4,L2.xqM,L2.wqV,L2.xqZ,zq5,vqE,dqq,aqT,uqb,yqO,List.drop_succ_cons,drop_zero,L2.uq1,L2.yq6,L2.Aqq,L2.zqc,Bool.not_eq_true',decide_eq_false_iff_not])
def sql:FnScope ["text","signs"] ["text","signs"] (defScope iqQ):=⟨rfl,rfl,rfl,by decide +kernel,rfl,by decide +kernel,by decide +kernel⟩
def mqO:FnScope ["sign","number"] ["sign"] (defScope jqd):=⟨rfl,rfl,rfl,by decide +kernel,rfl,by decide +kernel,by decide +kernel⟩
def kqT:FnScope ["figure"] ["figure"] (defScope cqE):=⟨rfl,rfl,rfl,by decide +kernel,rfl,by decide +kernel,by decide +kernel⟩
def dqy:FnScope ["number","place"] ["number"] (defScope cqD):=⟨rfl,rfl,rfl,by decide +kernel,rfl,by decide +kernel,by decide +kernel⟩
def pqN:FnScope ["address"] ["address"] (defScope hqM):=⟨rfl,rfl,rfl,by decide +kernel,rfl,by decide +kernel,by decide +kernel⟩
def jqB:FnScope ["thing"] ["thing"] (defScope bqP):=⟨rfl,rfl,rfl,by decide +kernel,rfl,by decide +kernel,by decide +kernel⟩
def iqs:FnScope ["self","name"] ["self","name"] (defScope aqS):=⟨rfl,rfl,rfl,by decide +kernel,rfl,by decide +kernel,by decide +kernel⟩
def jqE:FnScope ["rooted","texts","ends","ahead","behind"] ["rooted","texts","ends"] (defScope iqC):=⟨rfl,rfl,rfl,by decide +kernel,rfl,by decide +kernel,by decide +kernel⟩
def sqR:FnScope ["step"] ["step"] (defScope kq5):=⟨rfl,rfl,rfl,by decide +kernel,rfl,by decide +kernel,by decide +kernel⟩
def sq1:FnScope ["piece"] ["piece"] (defScope kq7):=⟨rfl,rfl,rfl,by decide +kernel,rfl,by decide +kernel,by decide +kernel⟩
def sqj:FnScope ["gap"] ["gap"] (defScope jqr):=⟨rfl,rfl,rfl,by decide +kernel,rfl,by decide +kernel,by decide +kernel⟩
def rqH:FnScope ["piece"] ["piece"] (defScope jqk):=⟨rfl,rfl,rfl,by decide +kernel,rfl,by decide +kernel,by decide +kernel⟩
def rq0:FnScope ["piece"] ["piece"] (defScope jqb):=⟨rfl,rfl,rfl,by decide +kernel,rfl,by decide +kernel,by decide +kernel⟩
def dqv:FnScope ["table","name","entry_name","pattern"] ["table","name"] (defScope cqJ):=⟨rfl,rfl,rfl,by decide +kernel,rfl,by decide +kernel,by decide +kernel⟩
def iqO:FnScope ["self","text"] ["self","text"] (defScope aqZ):=⟨rfl,rfl,rfl,by decide +kernel,rfl,by decide +kernel,by decide +kernel⟩
def kqM:FnScope ["self"] ["self"] (defScope bqf):=⟨rfl,rfl,rfl,by decide +kernel,rfl,by decide +kernel,by decide +kernel⟩
def hqX:FnScope ["self","sign"] ["self"] (defScope bqV):=⟨rfl,rfl,rfl,by decide +kernel,rfl,by decide +kernel,by decide +kernel⟩
def kqN:FnScope ["self","text"] ["self","text"] (defScope bqh):=⟨rfl,rfl,rfl,by decide +kernel,rfl,by decide +kernel,by decide +kernel⟩
def oqJ:FnScope ["door","cursor"] ["door","cursor"] (defScope fq9):=⟨rfl,rfl,rfl,by decide +kernel,rfl,by decide +kernel,by decide +kernel⟩
def lq2:FnScope ["_law_script","_law_k"] ["_law_script","_law_k"] (defScope cq3):=⟨rfl,rfl,rfl,by decide +kernel,rfl,by decide +kernel,by decide +kernel⟩
def aqL:FnScope ["_law_cell","_law_many","_law_letters","_law_size","_law_at","_law_names_here","_law_k","_law_name","_law_j","_law_step_here"] ["_law_cell","_law_many"] (defScope eqC):=⟨rfl,rfl,rfl,by decide +kernel,rfl,by decide +kernel,by decide +kernel⟩
def iqI:FnScope ["_law_some"] [] (defScope eqN):=⟨rfl,rfl,rfl,by decide +kernel,rfl,by decide +kernel,by decide +kernel⟩
def oq2:FnScope ["_law_pattern_here"] ["_law_pattern_here"] (defScope fqz):=⟨rfl,rfl,rfl,by decide +kernel,rfl,by decide +kernel,by decide +kernel⟩
def lqe:FnScope ["_law_piece_here"] ["_law_piece_here"] (defScope cq8):=⟨rfl,rfl,rfl,by decide +kernel,rfl,by decide +kernel,by decide +kernel⟩
def bq3:FnScope ["_law_pattern_here","_law_values_here","_law_known","_law_steps","_law_piece_here"] ["_law_pattern_here","_law_values_here"] (defScope dq7):=⟨rfl,rfl,rfl,by decide +kernel,rfl,by decide +kernel,by decide +kernel⟩
def aq7:FnScope ["_law_cell","_law_text_here","_law_scheme","_law_house","_law_door","_law_steps","_law_rooted","_law_question","_law_mark"] ["_law_cell","_law_text_here"] (defScope fqE):=⟨rfl,rfl,rfl,by decide +kernel,rfl,by decide +kernel,by decide +kernel⟩
def kqn:FnScope ["_law_cell","_law_text_here","_law_question"] ["_law_cell","_law_text_here"] (defScope fq0):=⟨rfl,rfl,rfl,by decide +kernel,rfl,by decide +kernel,by decide +kernel⟩
def rqw:FnScope ["thing"] ["thing"] (defScope jqD):=⟨rfl,rfl,rfl,by decide +kernel,rfl,by decide +kernel,by decide +kernel⟩
def jqQ:FnScope ["figures","high","low"] ["figures"] (defScope iqB):=⟨rfl,rfl,rfl,by decide +kernel,rfl,by decide +kernel,by decide +kernel⟩
def rqY:FnScope ["text"] ["text"] (defScope iqU):=⟨rfl,rfl,rfl,by decide +kernel,rfl,by decide +kernel,by decide +kernel⟩
def pqG:FnScope ["pieces"] ["pieces"] (defScope hqK):=⟨rfl,rfl,rfl,by decide +kernel,rfl,by decide +kernel,by decide +kernel⟩
def sqg:FnScope ["text"] ["text"] (defScope jqj):=⟨rfl,rfl,rfl,by decide +kernel,rfl,by decide +kernel,by decide +kernel⟩
def jqF:FnScope ["gap","value"] ["gap","value"] (defScope bq5):=⟨rfl,rfl,rfl,by decide +kernel,rfl,by decide +kernel,by decide +kernel⟩
def mqv:FnScope ["self","signs"] ["self","signs"] (defScope bqU):=⟨rfl,rfl,rfl,by decide +kernel,rfl,by decide +kernel,by decide +kernel⟩
def dqo:FnScope ["_law_cell","_law_pool","_law_text_here","_law_k"] ["_law_cell"] (defScope gqf):=⟨rfl,rfl,rfl,by decide +kernel,rfl,by decide +kernel,by decide +kernel⟩
def pqp:FnScope ["thing"] ["thing"] (defScope fqX):=⟨rfl,rfl,rfl,by decide +kernel,rfl,by decide +kernel,by decide +kernel⟩
def jq7:FnScope ["thing"] ["thing"] (defScope cqa):=⟨rfl,rfl,rfl,by decide +kernel,rfl,by decide +kernel,by decide +kernel⟩
def iqc:FnScope ["house","door","behind"] ["house","door"] (defScope dqH):=⟨rfl,rfl,rfl,by decide +kernel,rfl,by decide +kernel,by decide +kernel⟩
def oqW:FnScope ["way"] ["way"] (defScope fqU):=⟨rfl,rfl,rfl,by decide +kernel,rfl,by decide +kernel,by decide +kernel⟩
def mqp:FnScope ["name","value"] ["name","value"] (defScope dqP):=⟨rfl,rfl,rfl,by decide +kernel,rfl,by decide +kernel,by decide +kernel⟩
def nq6:FnScope ["mark"] ["mark"] (defScope eqK):=⟨rfl,rfl,rfl,by decide +kernel,rfl,by decide +kernel,by decide +kernel⟩
def cqk:FnScope ["pattern","values","names","name","value"] ["pattern","values"] (defScope cqH):=⟨rfl,rfl,rfl,by decide +kernel,rfl,by decide +kernel,by decide +kernel⟩
def fq5:FnScope ["cursor","door"] ["cursor"] (defScope fqa):=⟨rfl,rfl,rfl,by decide +kernel,rfl,by decide +kernel,by decide +kernel⟩
def fqQ:FnScope ["cursor","figures","sign"] ["cursor"] (defScope eqP):=⟨rfl,rfl,rfl,by decide +kernel,rfl,by decide +kernel,by decide +kernel⟩
def gqI:FnScope ["_law_cell","_law_text_here"] ["_law_cell"] (defScope gqd):=⟨rfl,rfl,rfl,by decide +kernel,rfl,by decide +kernel,by decide +kernel⟩
def jqP:FnScope ["question"] ["question"] (defScope cqf):=⟨rfl,rfl,rfl,by decide +kernel,rfl,by decide +kernel,by decide +kernel⟩
def mqr:FnScope ["thing"] ["thing"] (defScope dqZ):=⟨rfl,rfl,rfl,by decide +kernel,rfl,by decide +kernel,by decide +kernel⟩
def gqE:FnScope ["cursor","scheme"] ["cursor"] (defScope cq2):=⟨rfl,rfl,rfl,by decide +kernel,rfl,by decide +kernel,by decide +kernel⟩
def fqO:FnScope ["cursor","free","most","signs","allowed"] ["cursor","free","most"] (defScope eqF):=⟨rfl,rfl,rfl,by decide +kernel,rfl,by decide +kernel,by decide +kernel⟩
def dq9:FnScope ["_law_cell","_law_name","_law_head","_law_tail"] ["_law_cell","_law_name"] (defScope eq5):=⟨rfl,rfl,rfl,by decide +kernel,rfl,by decide +kernel,by decide +kernel⟩
def gqi:FnScope ["_law_piece_here","_law_cell","_law_text_here"] ["_law_piece_here","_law_cell"] (defScope eqT):=⟨rfl,rfl,rfl,by decide +kernel,rfl,by decide +kernel,by decide +kernel⟩
def uqn:FnScope ["address","scheme"] ["address"] (defScope qqD):=⟨rfl,rfl,rfl,by decide +kernel,rfl,by decide +kernel,by decide +kernel⟩
def pqI:FnScope ["gap","value"] ["gap","value"] (defScope hqL):=⟨rfl,rfl,rfl,by decide +kernel,rfl,by decide +kernel,by decide +kernel⟩
def bqJ:FnScope ["cursor","must_be_rooted","rooted","steps","ends","step"] ["cursor","must_be_rooted"] (defScope fqJ):=⟨rfl,rfl,rfl,by decide +kernel,rfl,by decide +kernel,by decide +kernel⟩
def mqA:FnScope ["cursor"] ["cursor"] (defScope dqO):=⟨rfl,rfl,rfl,by decide +kernel,rfl,by decide +kernel,by decide +kernel⟩
def nql:FnScope ["cursor"] ["cursor"] (defScope eq9):=⟨rfl,rfl,rfl,by decide +kernel,rfl,by decide +kernel,by decide +kernel⟩
def dqE:FnScope ["cursor","free","most","text"] ["cursor","free","most"] (defScope bqr):=⟨rfl,rfl,rfl,by decide +kernel,rfl,by decide +kernel,by decide +kernel⟩
def dqY:FnScope ["_law_cell","_law_names_here","_law_many","_law_pieces","_law_k"] ["_law_cell","_law_names_here"] (defScope eq1):=⟨rfl,rfl,rfl,by decide +kernel,rfl,by decide +kernel,by decide +kernel⟩
def bqZ:FnScope ["_law_pattern_here","_law_cells","_law_found","_law_k","_law_piece_here","_law_cell"] ["_law_pattern_here","_law_cells"] (defScope dqS):=⟨rfl,rfl,rfl,by decide +kernel,rfl,by decide +kernel,by decide +kernel⟩
def gqX:FnScope ["piece","values","named"] ["piece","values"] (defScope dqe):=⟨rfl,rfl,rfl,by decide +kernel,rfl,by decide +kernel,by decide +kernel⟩
def mqz:FnScope ["cursor"] ["cursor"] (defScope dqN):=⟨rfl,rfl,rfl,by decide +kernel,rfl,by decide +kernel,by decide +kernel⟩
def bqS:FnScope ["cursor","name","pairs"] ["cursor"] (defScope bq4):=⟨rfl,rfl,rfl,by decide +kernel,rfl,by decide +kernel,by decide +kernel⟩
def aqP:FnScope ["_law_script","_law_names_here","_law_labels","_law_first","_law_many","_law_table_here","_law_k","_law_cell","_law_pattern_here","_law_pieces","_law_ends","_law_at"] ["_law_script","_law_names_here","_law_labels","_law_first","_law_many"] (defScope eqJ):=⟨rfl,rfl,rfl,by decide +kernel,rfl,by decide +kernel,by decide +kernel⟩
def lq6:FnScope ["pattern","values","steps","piece"] ["pattern","values"] (defScope kqY):=⟨rfl,rfl,rfl,by decide +kernel,rfl,by decide +kernel,by decide +kernel⟩
def hqs:FnScope ["text","cursor","scheme","house","door","way","question","mark"] ["text"] (defScope rqr):=⟨rfl,rfl,rfl,by decide +kernel,rfl,by decide +kernel,by decide +kernel⟩
def wqM:FnScope ["table","name","values"] ["table","name","values"] (defScope qqI):=⟨rfl,rfl,rfl,by decide +kernel,rfl,by decide +kernel,by decide +kernel⟩
def lqD:FnScope ["table","base","name","values","question","mark"] ["table","base","name","values","question","mark"] (defScope cq7):=⟨rfl,rfl,rfl,by decide +kernel,rfl,by decide +kernel,by decide +kernel⟩
def aq6:FnScope ["_law_table_here","_law_base_here","_law_name","_law_values_here","_law_more_here","_law_found","_law_fault","e"] ["_law_table_here","_law_base_here","_law_name","_law_values_here","_law_more_here"] (defScope fqN):=⟨rfl,rfl,rfl,by decide +kernel,rfl,by decide +kernel,by decide +kernel⟩
def aqA:FnScope ["_law_table_here","_law_k","_law_cell","_law_odd","_law_name","_law_pattern_here","_law_text_here","_law_base_here","_law_more_here","_law_values_here","_law_fault","_law_kept","_law_found","_law_told_here","_law_due","_law_shown"] ["_law_table_here","_law_k","_law_cell","_law_odd"] (defScope eqD):=⟨rfl,rfl,rfl,by decide +kernel,rfl,by decide +kernel,by decide +kernel⟩
def hq4:FnScope ["_law_script","_law_many","_law_labels","_law_table_here","_law_kept","_law_odd","_law_cells","_law_k","_law_cell","_law_base_here"] ["_law_script"] (defScope uqH):=⟨rfl,rfl,rfl,by decide +kernel,rfl,by decide +kernel,by decide +kernel⟩
theorem hqD (g:G K mg):FnOk P w K mg base CX0 1 g.iq7 g.hqO ["text","signs"] sqk:=by
 refine g.fqo.ok sql (fun vs H Q E h=>?_) (fun ae A ac s H vs Q E hr h=>?_)
 ·obtain⟨x,y,rfl,_⟩:=h;rfl
 ·obtain⟨x,y,rfl,hx,k⟩:=h
  refine⟨_,(aqe (aql (aqF (oqH (K:=K) rfl rfl) rfl g.wq9 PyProof.Rows.boot_all (aqa (iqk (fx:=["signs"]) (fr:=[1]) rfl rfl (by decide +kernel) rfl (by decide +kernel) rfl (by decide +kernel) rfl (.cons rfl rfl rfl rfl .nil) rfl (wqy (pv 0)) (fun _ _ _=>mqJ) (fun _ _ _=>(aq5 oqk (pv 0) (pv 1) (by with_unfolding_all rfl)))) aqb)))),?_⟩
  walk_at "rd"
  intro p hp
  refine qqF (z:=x) (aqq hx) hp (fun c=>.bl (decide (c∈y.cps.toList))) (fun c hc H' R hR=>?_) (fun H' sm ad=>?_)
  ·walk_at "rd"
   exact hR H' (Same.refl _)
  ·refine pqE.mpr ⟨x.cps.toList.map fun c=>decide (c∈y.cps.toList),SqL.of (by rw[ad,map_map];rfl),?_⟩
   rw[all_map]
   exact k H' sm
theorem rqG (g:G K mg):FnOk P w K mg base CX0 1 g.jqo g.hqE ["sign"] nqd:=by
 refine g.lqg.ok mqO (fun vs H Q E h=>?_) (fun ad A ac s H vs Q E hr h=>?_)
 ·obtain⟨c,rfl,_⟩:=h;rfl
 ·obtain⟨c,rfl,hc,k⟩:=h
  refine⟨_,(aqc (aqk (i:=1) mqO.nd rfl (Or.inl rfl) (aqF tqx rfl g.zqq uqD (aqa (pv 0) aqb)))
   (aqe (aql (aqi (aqR (K:=K) rfl) (aqi (aqR (K:=K) rfl) aqg (aqw (aqh (K:=K) rfl) (aqx (v:=cqF) rfl g.bqC ⟨_,rfl⟩) (aqi aqz (pv 1) aqd) (fun _ _=>rfl))) (aqw (aqh (K:=K) rfl) (aqx (v:=cqF) rfl g.bqC ⟨_,rfl⟩) (aqi aqJ (pv 1) aqd) (fun _ _=>rfl)))))),?_⟩
  walk_at "rd"
  exact⟨⟨by decide,by decide⟩,hexd (c / 16),oqY,zqh (by lia) (by lia),by decide,by decide,hexd (c % 16),oqY,zqh (by lia) (by lia),by decide,k⟩
theorem gqo (g:G K mg):FnOk P w K mg base CX0 1 g.cqI g.cqc ["figure"] gqk:=by
 refine g.cqP.ok kqT (fun vs H Q E h=>?_) (fun ad A ac s H vs Q E hr h=>?_)
 ·obtain⟨c,rfl,_⟩:=h;rfl
 ·obtain⟨a,rfl,ha,k⟩:=h
  refine⟨_,(aqc (aqN (aqj oqk (pv 0) (aqx (v:=cqF) rfl g.bqC ⟨_,rfl⟩) (by with_unfolding_all rfl))
    (aqe (aql (cqs (K:=K) rfl PySem.F.plainAttrs_str PySem.F.slot_str_index PySem.F.type_str_index qqz (aqx (v:=cqF) rfl g.bqC ⟨_,rfl⟩) (aqa (pv 0) aqb)))) aqr)
   (aqc (aqN (aqj oqk (pv 0) (aqx (v:=hqc) rfl g.eqt ⟨_,rfl⟩) (by with_unfolding_all rfl))
    (aqe (aql (cqs (K:=K) rfl PySem.F.plainAttrs_str PySem.F.slot_str_index PySem.F.type_str_index qqz (aqx (v:=hqc) rfl g.eqt ⟨_,rfl⟩) (aqa (pv 0) aqb)))) aqr)
   (aqe (aql aqM)))),?_⟩
  walk_at "rd"
  refine ite2 (fun h=>?_) (fun h=>?_)
  ·obtain⟨e1,e2⟩:=vqG a ha h
   obtain⟨n,hn⟩:=Option.isSome_iff_exists.mp e2
   rw[hn] at e1
   rw[gqC hn] at k
   exact⟨n,[],e1,k⟩
  ·refine ite2 (fun h2=>?_) (fun h2=>?_)
   ·obtain⟨e1,e2⟩:=vqx a ha h h2
    obtain⟨n,hn⟩:=Option.isSome_iff_exists.mp e2
    rw[hn] at e1
    rw[gqC hn] at k
    exact⟨n,[],e1,k⟩
   ·rw[lqT (AqN a ha h h2)] at k
    exact k
theorem kqL (g:G K mg):FnOk P w K mg base CX0 1 g.cqN g.cqe ["number"] kqS:=by
 refine g.eqs.ok dqy (fun vs H Q E h=>?_) (fun ae A ad s H vs Q E hr h=>?_)
 ·obtain⟨c,rfl,_⟩:=h;rfl
 ·obtain⟨n,rfl,k⟩:=h
  refine⟨_,(aqc (aqN (PW.pt (kqO (aqj qqh (pv 0) (aqx (v:=hq0) rfl g.fqg ⟨_,rfl⟩) (nomark _)) (kqO (aqj oqb (pv 0) (aqx (v:=nq2) rfl g.iq4 ⟨_,rfl⟩) (nomark _)) (iqV (aqj bqk (pv 0) (aqx (v:=fql) rfl g.cqT ⟨_,rfl⟩) (nomark _))))))
    (aqe (aql aqM)) aqr)
   (aqc (aqk (i:=1) dqy.nd rfl (Or.inl rfl) (aqi qq2 (pv 0) (aqx (v:=hq0) rfl g.fqg ⟨_,rfl⟩)))
   (aqc (aqN (aqj oqb (pv 0) (aqx (v:=fql) rfl g.cqT ⟨_,rfl⟩) (nomark _))
    (aqe (aqk (i:=1) dqy.nd rfl (Or.inl rfl) (aqi qq2 (pv 1) aqd))) aqr)
   (aqe (aql (aqw (aqh (K:=K) rfl) (aqx (v:=tq0) rfl g.pqV ⟨_,rfl⟩) (pv 1) (fun _ _=>rfl))))))),?_⟩
  walk_at "rd"
  refine ite2 (fun h=>?_) (fun h=>?_)
  ·rw[uqc (fun q=>by have:=fqV q;lia)] at k
   exact k
  ·refine ite2 (fun h1=>?_) (fun h1=>?_)
   ·rw[uqc (fun q=>by have:=fqV q;lia)] at k
    exact k
   ·refine ite2 (fun h2=>?_) (fun h2=>?_)
    ·rw[uqc (fun q=>by have:=fqV q;lia)] at k
     exact k
    ·have hs:isSg n=true:=xqV (by lia) (by lia) (by lia)
     rw[yqq hs] at k
     have ac:=uq3 n (by lia) hs
     refine ite2 (fun h3=>?_) (fun h3=>?_)
     ·rw[if_pos (show 37 < n by lia)] at ac
      refine⟨n,oq4,?_,k⟩
      rw[show (n:Int) - 32 - 1=((n - 32 - 1:Nat):Int) by lia]
      exact aqs ac
     ·rw[if_neg (show ¬ 37 < n by lia)] at ac
      refine⟨n,oq4,?_,k⟩
      rw[show (n:Int) - 32=((n - 32 - 0:Nat):Int) by lia]
      exact aqs ac
theorem mqd (g:G K mg):FnOk P w K mg base CX0 1 g.hqC g.gqj ["address"] (qqi K):=by
 refine g.hqB.ok pqN (fun vs H Q E h=>?_) (fun ad A ac s H vs Q E hr h=>?_)
 ·obtain⟨p,l,r,rfl,_⟩:=h;rfl
 ·obtain⟨p,l,r,rfl,hp,k⟩:=h
  refine⟨_,(aqe (aql (aq5 lqi (aqw (aqh (K:=K) rfl) (pv 0) (aqx (v:=rqq) rfl g.nqN ⟨_,rfl⟩) (fun _ _=>rfl)) aqg (nomark _)))),?_⟩
  walk_at "rd"
  refine⟨_,_,.inr hp,AqT,?_⟩
  walk_at "rd"
  rw[show decide ((⟨l.toArray⟩:Str)=⟨([]:List Nat).toArray⟩)=decide (l=[]) from decide_eq_decide.mpr dqC]
  exact k
theorem jqm (g:G K mg):FnOk P w K mg base CX0 1 g.bqX g.bqy ["thing"] jqw:=by
 refine g.cqW.ok jqB (fun vs H Q E h=>?_) (fun ad A ac s H vs Q E hr h=>?_)
 ·obtain⟨d,v,rfl,_⟩:=h;rfl
 ·obtain⟨d,v,rfl,hv,k⟩:=h
  refine⟨_,(aqe (aql (fqu (aqF eqo rfl g.bqm aq4 (aqa (pv 0) (aqa (iqt (v:=.ty "int") rfl g.vqV sqQ rfl) aqb))) (dqp (rqg (aqF eqo rfl g.bqm aq4 (aqa (pv 0) (aqa (iqt (v:=.ty "bool") rfl g.wqd yqU rfl) aqb)))))))),?_⟩
  cases hv with
  |lst hp r=>walk_at "rd";simp only[kq0 hp];walk_at "rd";exact k
  |tup hp r=>walk_at "rd";simp only[lqa hp];walk_at "rd";exact k
  |_=>walk_at "rd";exact k
def eqw (g:G K mg):FnOk P w K mg base CX0 1 g.bqx g.bqo ["self","name"] (cqm K g.aqK):=by
 refine g.eqM.ok iqs (fun vs H Q E h=>?_) (fun cdv A outer s H vs Q E hr h=>?_)
 ·obtain⟨a,v,rfl,_⟩:=h;rfl
 ·obtain⟨a,v,rfl,ha,k⟩:=h
  refine⟨_,(aqe (xqR (pv 0) (pv 1) rfl)),?_⟩
  walk_at "rd"
  exact⟨a,_,rfl,ha,g.gqZ,fun d hd=>k d hd⟩
theorem rqE (g:G K mg):FnOk P w K mg base CX0 1 g.iqT g.hqx ["rooted","texts","ends"] (sqa K):=by
 refine g.lqf.ok jqE (fun vs H Q E h=>?_) (fun ae A ac s H vs Q E hr h=>?_)
 ·obtain⟨r,e,p,ts,rfl,_⟩:=h;rfl
 ·obtain⟨r,e,p,ts,rfl,hp,hl,k⟩:=h
  refine⟨_,(aqE (aqk (i:=3) jqE.nd rfl (Or.inl rfl) (bqd (bqb (pv 0)) aqg aqg))
   (aqE (aqk (i:=4) jqE.nd rfl (Or.inl rfl) (bqd (PW.pt (gqu (bqb (pv 2)) (eqp (aqj oqb (aqF (aqO (K:=K) rfl) rfl g.fqn PySem.boot_len (aqa (pv 1) aqb)) aqd (nomark _))))) aqg aqg))
   (aqe (aql (aqi (aqR (K:=K) rfl) (aqi (aqR (K:=K) rfl) (pv 3) (cqs (K:=K) rfl PySem.F.plainAttrs_str PySem.F.slot_str_join PySem.F.type_str_join (kqW (K:=K) rfl) aqg (aqa (pv 1) aqb))) (pv 4)))))),?_⟩
  have c1:Str.ofString "/"=⟨[47].toArray⟩:=by decide +kernel
  rw[c1]
  walk_at "rd"
  refine⟨fun σ H'=>H'=H∧σ=[some (.bl r),some (.ref p),some (.bl e),some (.str ⟨(if r then [47] else []:List Nat).toArray⟩),none],?_,?_⟩
  ·cases r with
   |true=>exact ite2 (fun _=>⟨rfl,rfl⟩) (fun z=>absurd rfl z)
   |false=>exact ite2 (fun z=>by cases z) (fun _=>⟨rfl,rfl⟩)
  rintro σ H' ⟨rfl,rfl⟩
  walk_at "rd"
  refine⟨fun σ ad=>ad=H'∧σ=[some (.bl r),some (.ref p),some (.bl e),some (.str ⟨(if r then [47] else []:List Nat).toArray⟩),some (.str ⟨(if e && !ts.isEmpty then [47] else []:List Nat).toArray⟩)],?_,?_⟩
  ·cases e with
   |false=>exact ite2 (fun z=>by cases z) (fun _=>⟨rfl,rfl⟩)
   |true=>
    refine ite2 (fun _=>⟨_,.inl hp,?_⟩) (fun z=>absurd rfl z)
    rw[length_map]
    cases ts with
    |nil=>exact ite2 (fun z=>absurd z (by decide)) (fun _=>⟨rfl,rfl⟩)
    |cons t ts=>exact ite2 (fun _=>⟨rfl,rfl⟩) (fun z=>absurd (by simp) z)
  rintro σ ad ⟨rfl,rfl⟩
  walk_at "rd"
  have hj:=qqJ (sep:=47) ts
  have h1:(if r=true then [47] else ([]:List Nat)).length≤1:=by split <;> simp
  have h2:(if (e && !ts.isEmpty)=true then [47] else ([]:List Nat)).length≤1:=by split <;> simp
  refine⟨ts.map fun l=>⟨l.toArray⟩,by rw[map_map];exact hp,?_,?_⟩
  ·rw[tqF,length_map]
   have:(ts.map List.length).sum+ts.length≤(joinT 47 ts).length+1:=hj
   lia
  rw[show (⟨#[47]⟩:Str)=⟨[47].toArray⟩ from rfl,qqH]
  walk_at "rd"
  refine⟨aqq (by lia),aqq (by rw[length_append];lia),?_⟩
  rw[append_assoc]
  exact k
theorem pqy (g:G K mg):FnOk P w K mg base CX0 1 g.kq1 g.iqG ["step"] oqZ:=by
 refine g.kq2.ok sqR (fun vs H Q E h=>?_) (fun ad A ac s H vs Q E hr h=>?_)
 ·obtain⟨s,rfl,_⟩:=h;rfl
 ·obtain⟨s,rfl,k⟩:=h
  refine⟨_,(aqe (aql (rqA (aq5 bqk (pv 0) (aqx (v:=zqt) rfl g.wqf ⟨_,rfl⟩) (nomark _)) (dqp (aq5 bqk (pv 0) (aqx (v:=k_UP) rfl g.c_UP ⟨_,rfl⟩) (nomark _)))))),?_⟩
  have d1:Str.ofString ".."=⟨sUp.toArray⟩:=by decide +kernel
  have d2:Str.ofString "."=⟨sStay.toArray⟩:=by decide +kernel
  walk_at "rd"
  rw[d1,d2]
  simp only[dqC]
  by_cases h2:s=sStay
  ·rw[if_pos h2]
   rw[show isDot s=true by simp[isDot,h2]] at k
   exact k
  ·rw[if_neg h2]
   rw[show isDot s=decide (s=sUp) by simp[isDot,h2]] at k
   exact k
def pqB (g:G K mg):FnOk P w K mg base CX0 1 g.kq6 g.jqi ["piece"] (tq9 K):=by
 refine g.kq3.ok sq1 (fun vs H Q E h=>?_) (fun ad A ac s H vs Q E hr h=>?_)
 ·obtain⟨c,p,rfl,_⟩:=h;rfl
 ·obtain⟨c,p,rfl,hp,k⟩:=h
  refine⟨_,(aqe (aql (aq5 lqi (aqw (aqh (K:=K) rfl) (pv 0) aqd (fun _ _=>rfl)) aqg (nomark _)))),?_⟩
  walk_at "rd"
  refine⟨_,_,.inr hp,c.at0,?_⟩
  refine L2.nqY.mpr ?_
  rw[pqZ]
  exact k
theorem jqN (g:G K mg):FnOk P w K mg base CX0 1 g.iqY g.hqN ["gap"] (mqH K):=by
 refine g.gq7.ok sqj (fun vs H Q E h=>?_) (fun ad A ac s H vs Q E hr h=>?_)
 ·obtain⟨c,p,rfl,_⟩:=h;rfl
 ·obtain⟨c,p,rfl,hp,hc,k⟩:=h
  refine⟨_,(aqe (aql (bqd (aqj bqk (aqw (aqh (K:=K) rfl) (pv 0) aqd (fun _ _=>rfl)) aqg (nomark _)) (aqw (aqh (K:=K) rfl) (pv 0) aqd (fun _ _=>rfl)) (aqw (aqh (K:=K) rfl) (pv 0) aqd (fun _ _=>rfl))))),?_⟩
  walk_at "rd"
  refine⟨_,_,.inr hp,c.at0,?_⟩
  refine L2.aq0.mpr ⟨_,rfl,?_⟩
  rw[jqO]
  cases c with
  |step s=>cases hc
  |part h n t=>exact ite2 (fun _=>⟨_,_,.inr hp,aqs (j:=2) rfl,k⟩) (fun z=>absurd rfl z)
  |num n=>exact ite2 (fun z=>by cases z) (fun _=>⟨_,_,.inr hp,aqs (j:=1) rfl,k⟩)
  |word n=>exact ite2 (fun z=>by cases z) (fun _=>⟨_,_,.inr hp,aqs (j:=1) rfl,k⟩)
  |gap n=>exact ite2 (fun z=>by cases z) (fun _=>⟨_,_,.inr hp,aqs (j:=1) rfl,k⟩)
  |rest n=>exact ite2 (fun z=>by cases z) (fun _=>⟨_,_,.inr hp,aqs (j:=1) rfl,k⟩)
theorem nqb (g:G K mg):FnOk P w K mg base CX0 1 g.jqC g.hqz ["piece"] (rqv K):=by
 refine g.jqp.ok rqH (fun vs H Q E h=>?_) (fun ad A ac s H vs Q E hr h=>?_)
 ·obtain⟨c,p,rfl,_⟩:=h;rfl
 ·obtain⟨c,p,rfl,hp,k⟩:=h
  refine⟨_,(aqe (aql (bqd (aqj bqk (aqw (aqh (K:=K) rfl) (pv 0) aqd (fun _ _=>rfl)) aqg (nomark _)) (aqw (aqh (K:=K) rfl) (pv 0) aqd (fun _ _=>rfl)) aqg))),?_⟩
  walk_at "rd"
  refine⟨_,_,.inr hp,c.at0,?_⟩
  refine L2.aq0.mpr ⟨_,rfl,?_⟩
  rw[jqO]
  cases c with
  |part h n t=>exact ite2 (fun _=>⟨_,_,.inr hp,aqs (j:=1) rfl,k⟩) (fun z=>absurd rfl z)
  |_=>exact ite2 (fun z=>by cases z) (fun _=>k)
theorem mq3 (g:G K mg):FnOk P w K mg base CX0 1 g.iqH g.hqJ ["piece"] (rqR K):=by
 refine g.iq2.ok rq0 (fun vs H Q E h=>?_) (fun ad A ac s H vs Q E hr h=>?_)
 ·obtain⟨c,p,rfl,_⟩:=h;rfl
 ·obtain⟨c,p,rfl,hp,k⟩:=h
  refine⟨_,(aqe (aql (bqd (aqj bqk (aqw (aqh (K:=K) rfl) (pv 0) aqd (fun _ _=>rfl)) aqg (nomark _)) (aqw (aqh (K:=K) rfl) (pv 0) aqd (fun _ _=>rfl)) aqg))),?_⟩
  walk_at "rd"
  refine⟨_,_,.inr hp,c.at0,?_⟩
  refine L2.aq0.mpr ⟨_,rfl,?_⟩
  rw[jqO]
  cases c with
  |part h n t=>exact ite2 (fun _=>⟨_,_,.inr hp,aqs (j:=3) rfl,k⟩) (fun z=>absurd rfl z)
  |_=>exact ite2 (fun z=>by cases z) (fun _=>k)
theorem jq2 (g:G K mg):FnOk P w K mg base (CXN P w base) 1 g.cqL g.cqb ["table","name"] (jqU K g.bqW):=by
 refine g.eqk.okn dqv (fun vs H Q E h=>?_) (fun ah A ad s H vs Q E hr h=>?_)
 ·obtain⟨l,T,ws,n,rfl,_⟩:=h;rfl
 ·obtain⟨l,T,ws,n,rfl,hl,hT,k,kE⟩:=h
  refine⟨_,(aqc (gq1 PassesOwn.leaving rfl (kq4 (K:=K) rfl (pv 0)) (iql (n:=2) (K:=K) rfl rfl (bqe (aqX (i:=2) dqv.nd rfl (Or.inl rfl)) (bqe (aqX (i:=3) dqv.nd rfl (Or.inl rfl)) gqU)))
   (aqe (aqN (aqj bqk (pv 2) (pv 1) (nomark _))
    (aqe (aql (pv 3))) aqr)))
   (aqe (oqq raisesN rfl g.nqg g.qq4 rfl))),?_⟩
  walk_at "rd"
  have ag:=hT.length
  refine⟨⟨_,.of hl⟩,?_⟩
  refine pqq (xs:=ws) (fun i σ H'=>Same H H'∧∃v2 v3:Option V,σ=[some (.ref l),some (tV n),v2,v3]∧T.find? (fun t=>decide (t.1=n))=(T.drop i).find? (fun t=>decide (t.1=n))) ⟨Same.refl _,none,none,rfl,rfl⟩ (fun i σ H' _ h=>.of (h.1 _ _ hl)) ?_ ?_
  ·rintro i v σ H1 hv ⟨s1,v2,v3,rfl,ac⟩
   obtain⟨t,ht,a',p',rfl,af,ae⟩:=hT.get hv
   rw[sq4 ht,List.find?_cons] at ac
   walk_at "rd"
   refine⟨a',_,rfl,.of (s1 _ _ af),rfl,_,_,rfl,_,_,rfl,rfl,?_⟩
   walk_at "rd"
   refine ite2 (fun h=>k t (by rw[ac,decide_eq_true (dqC.mp h)]) p' H1 s1 (ae.mono s1.toT)) (fun h=>⟨s1,_,_,⟨rfl,rfl⟩,by rw[ac,decide_eq_false (fun z=>h (by rw[z]))]⟩)
  rintro σ H1 ⟨s1,v2,v3,rfl,ac⟩
  walk_at "rd"
  exact kE (by rw[ac,ag,List.drop_length];rfl) H1 s1
theorem iqz (g:G K mg):FnOk P w K mg base CX0 1 g.bqT g.bqw ["self","text"] (iqW K g.aqt):=by
 refine g.fqr.ok iqO (fun vs H Q E h=>?_) (fun ad A ac s H vs Q E hr h=>?_)
 ·obtain⟨p,dx,t,rfl,_⟩:=h;rfl
 ·obtain⟨p,dx,t,rfl,hp,k⟩:=h
  refine⟨_,(aqc (rqk (pv 0) (pv 1) rfl)
   (aqe (rqk (pv 0) aqd rfl))),?_⟩
  walk_at "rd"
  refine⟨p,_,dx,_,rfl,hp,g.aqo,g.aqW,by show 0 < 1000;decide,?_⟩
  refine⟨p,_,dx,_,rfl,aqm,g.aqo,g.aqD,by show 1 < 1000;decide,?_⟩
  have h:Str.ofString "text" ≠ Str.ofString "place" := by decide +kernel
  rw[tqk]
  refine k _ iqq ⟨dx,?_⟩
  rw[aqm]
  simp only[putF,if_neg h]
  rfl
theorem gqs (g:G K mg):FnOk P w K mg base CX0 1 g.cqy g.cqd ["self"] (kqQ K g.aqt):=by
 refine g.hql.ok kqM (fun vs H Q E h=>?_) (fun ae A ad s H vs Q E hr h=>?_)
 ·obtain⟨p,t,i,rfl,_⟩:=h;rfl
 ·obtain⟨p,t,i,rfl,⟨dx,hp⟩,hl,k⟩:=h
  refine⟨_,(aqe (aql (aq5 bqk (dqG (pv 0) rfl) (aqF (aqO (K:=K) rfl) rfl g.fqn PySem.boot_len (aqa (dqG (pv 0) rfl) aqb)) (nomark _)))),?_⟩
  have ac:Cur H g.aqt p t i:=⟨dx,hp⟩
  walk_at "rd"
  refine cqp ac g.aqo g.aqD (gqa ac g.aqo g.aqW ?_)
  walk_at "rd"
  refine⟨aqq hl,?_⟩
  rw[show decide ((i:Int)=(t.length:Int))=decide (i=t.length) from decide_eq_decide.mpr (by lia)]
  exact k
theorem bqY (g:G K mg):FnOk P w K mg base CX0 1 g.dq8 g.dqd ["self"] (mqs K g.aqt):=by
 refine g.jqc.ok hqX (fun vs H Q E h=>?_) (fun ae A ad s H vs Q E hr h=>?_)
 ·obtain⟨p,t,i,c,rfl,_⟩:=h;rfl
 ·obtain⟨p,t,i,c,rfl,⟨dx,hp⟩,hc,hl,k⟩:=h
  refine⟨_,(aqc (aqk (i:=1) hqX.nd rfl (Or.inl rfl) (aqw (aqh (K:=K) rfl) (dqG (pv 0) rfl) (dqG (pv 0) rfl) (fun _ _=>rfl)))
   (aqc (rqk (pv 0) (aqi (aqR (K:=K) rfl) (dqG (pv 0) rfl) aqd) rfl)
   (aqe (aql (pv 1))))),?_⟩
  have ac:Cur H g.aqt p t i:=⟨dx,hp⟩
  walk_at "rd"
  refine gqa ac g.aqo g.aqW (cqp ac g.aqo g.aqD ?_)
  walk_at "rd"
  refine⟨c,aqq hl,aqs hc,?_⟩
  refine cqp ac g.aqo g.aqD ?_
  walk_at "rd"
  exact pqh ac g.aqo g.aqD (i+1) (by lia) fun H' sb h=>k H' sb h
def cqO {K:W.Frag}{C p:Addr}{H:Hp}{Q:VK}{E:XK}{t w r:List Nat}{i:Nat}(h:Cur H C p t i)(hi:i≤t.length)(hl:t.length≤100000)(hd:t.drop i=w++r)(k:∀H',SameBut p H H'->Cur H' C p t (i+w.length)->i+w.length≤t.length->t.drop (i+w.length)=r->Q (.bl true) H'):bq8 K C [.ref p,.str ⟨w.toArray⟩] H Q E:=
 ⟨p,t,w,i,rfl,h,hi,hl,fun _ H' s c=>k H' s c (by have:=congrArg List.length hd;rw[length_drop,length_append] at this;lia) (by rw[<- drop_drop,hd,drop_left]),fun z=>absurd (by rw[hd,take_left]) z⟩
def pqL {K:W.Frag}{C p:Addr}{H:Hp}{Q:VK}{E:XK}{t w:List Nat}{i:Nat}(h:Cur H C p t i)(hi:i≤t.length)(hl:t.length≤100000)(hn:¬ (t.drop i).take w.length=w)(k:Q (.bl false) H):bq8 K C [.ref p,.str ⟨w.toArray⟩] H Q E:=
 ⟨p,t,w,i,rfl,h,hi,hl,fun z=>absurd z hn,fun _=>k⟩
def fq1 {K:W.Frag}{C p:Addr}{H:Hp}{Q:VK}{E:XK}{t r:List Nat}{i c:Nat}(h:Cur H C p t i)(hi:i≤t.length)(hl:t.length≤100000)(hd:t.drop i=r)(hn:r.head?≠some c)(k:Q (.bl false) H):bq8 K C [.ref p,.str ⟨[c].toArray⟩] H Q E:=
 pqL h hi hl (fun z=>hn (by rw[hd] at z;cases r with|nil=>cases z|cons d r=>rw[(List.cons.inj z).1];rfl)) k
theorem aqI (g:G K mg):FnOk P w K mg base CX0 1 g.cqx g.cqj ["self","text"] (bq8 K g.aqt):=by
 refine g.gqG.ok kqN (fun vs H Q E h=>?_) (fun ae A ad s H vs Q E hr h=>?_)
 ·obtain⟨p,t,w,i,rfl,_⟩:=h;rfl
 ·obtain⟨p,t,w,i,rfl,⟨dx,hp⟩,hi,hl,k1,k2⟩:=h
  refine⟨_,(aqc (aqN (dqm (bqb (cqs (K:=K) rfl PySem.F.plainAttrs_str PySem.F.slot_str_startswith PySem.F.type_str_startswith rqx (dqG (pv 0) rfl) (aqa (pv 1) (aqa (dqG (pv 0) rfl) aqb)))))
    (aqe (aql kqJ)) aqr)
   (aqc (rqk (pv 0) (aqi (aqR (K:=K) rfl) (dqG (pv 0) rfl) (aqF (aqO (K:=K) rfl) rfl g.fqn PySem.boot_len (aqa (pv 1) aqb))) rfl)
   (aqe (aql kqJ)))),?_⟩
  have ac:Cur H g.aqt p t i:=⟨dx,hp⟩
  walk_at "rd"
  refine gqa ac g.aqo g.aqW ⟨rfl,cqp ac g.aqo g.aqD ?_⟩
  walk_at "rd"
  have e:=wqw t w i hi
  rw[aqT,aqT] at e
  rw[e]
  by_cases h:(t.drop i).take w.length=w
  ·rw[decide_eq_true h,if_neg (by decide)]
   refine cqp ac g.aqo g.aqD ?_
   walk_at "rd"
   exact⟨aqq (by have:=congrArg List.length h;rw[length_take,length_drop] at this;lia),pqh ac g.aqo g.aqD (i+w.length) (by lia) fun H' sb h'=>k1 h H' sb h'⟩
  ·rw[decide_eq_false h,if_pos rfl]
   exact k2 h
theorem kqC (g:G K mg):FnOk P w K mg base CX0 1 g.fq8 g.eqQ ["door","cursor"] (oqm K g.aqt):=by
 refine g.fqL.ok oqJ (fun vs H Q E h=>?_) (fun ag A ad s H vs Q E hr h=>?_)
 ·obtain⟨p,t,i,c,n,rfl,_⟩:=h;rfl
 ·obtain⟨p,t,i,c,n,rfl,ac,hl,hc,ae,af,hn,k⟩:=h
  refine⟨_,(aqe (aql (aqi (aqR (K:=K) rfl) (aqi eqj (pv 0) aqd) (aq8 oqs rfl g.vqV sqQ (aqa (aqw (aqh (K:=K) rfl) (dqG (pv 1) rfl) (dqG (pv 1) rfl) (fun _ _=>rfl)) aqb))))),?_⟩
  walk_at "rd"
  refine⟨.inl ⟨by lia,by lia⟩,gqa ac g.aqo g.aqW (cqp ac g.aqo g.aqD ?_)⟩
  walk_at "rd"
  refine⟨c,aqq hl,aqs hc,_,by show 1≤640;decide,uqs c (by lia) ae,?_⟩
  rw[show (n:Int) * 10+((c - 48:Nat):Int)=((n * 10+(c - 48):Nat):Int) by lia]
  exact k
theorem bqg (g:G K mg):FnOk P w K mg base CX0 1 g.dqg g.cqq ["_law_script","_law_k"] (lqN K):=by
 refine g.aqY.ok lq2 (fun vs H Q E h=>?_) (fun ad A ac s H vs Q E hr h=>?_)
 ·obtain⟨a,ns,k,rfl,_⟩:=h;rfl
 ·obtain⟨a,ns,i,rfl,hS,k⟩:=h
  refine⟨_,(aqc (aqN (aqj qqh (pv 1) (aqF (aqO (K:=K) rfl) rfl g.fqn PySem.boot_len (aqa (pv 0) aqb)) (nomark _))
    (aqe (aql (aqw (aqh (K:=K) rfl) (pv 0) (pv 1) (fun _ _=>rfl)))) aqr)
   (aqe (aql aqd))),?_⟩
  walk_at "rd"
  refine⟨ns.map V.int,.inl hS,ite2 (fun h=>?_) (fun h=>?_)⟩
  ·rw[length_map] at h
   exact⟨ns.map V.int,_,.inl hS,wqX (by lia),k⟩
  ·rw[length_map] at h
   rw[List.getD_eq_getElem?_getD,List.getElem?_eq_none (by lia)] at k
   exact k
theorem jqa (g:G K mg):FnOk P w K mg base CX0 1 g.fqc g.dq3 ["_law_cell","_law_many"] (nqJ K):=by
 refine g.eqW.ok aqL (fun vs H Q E h=>?_) (fun ax A al s H vs Q E hr h=>?_)
 ·obtain⟨c,m,rfl,_⟩:=h;rfl
 ·obtain⟨c,m,rfl,hm,k⟩:=h
  refine⟨_,(aqc (aqk (i:=2) aqL.nd rfl (Or.inl rfl) aqg)
   (aqc (aqk (i:=3) aqL.nd rfl (Or.inl rfl) (aqi (aqB (K:=K)) aqd (aqi aqJ (pv 0) aqd)))
   (aqc (aqk (i:=4) aqL.nd rfl (Or.inl rfl) (aqi aqJ (aqi aqz (pv 0) aqd) (pv 3)))
   (aqc (aqk (i:=5) aqL.nd rfl (Or.inl rfl) (aqG aqb))
   (aqc (gq1 PassesOwn.never rfl (fqk rfl g.iqr (aqa (pv 1) aqb)) (aqX (i:=6) aqL.nd rfl (Or.inl rfl))
   (aqc (aqk (i:=7) aqL.nd rfl (Or.inl rfl) aqg)
   (aqE (gq1 PassesOwn.never rfl (fqk rfl g.iqr (aqa (pv 3) aqb)) (aqX (i:=8) aqL.nd rfl (Or.inl rfl))
   (aqc (aqk (i:=9) aqL.nd rfl (Or.inl rfl) (aqi (aqB (K:=K)) (aqi aqz (pv 0) (aqi (aqB (K:=K)) aqd (aqi eqj aqd (pv 8)))) (aqi eqj (aqi eqj aqd (pv 8)) (pv 8))))
   (aqE (aqN (aqj bqk (pv 8) (pv 4) (nomark _))
    (aqe (aqk (i:=9) aqL.nd rfl (Or.inl rfl) (aqi (aqB (K:=K)) (pv 9) (pv 6)))) aqr)
   (aqe (aqk (i:=7) aqL.nd rfl (Or.inl rfl) (aqi (aqB (K:=K)) (pv 7) (aqw (aqh (K:=K) rfl) (pv 2) (aqi aqJ (pv 9) aqd) (fun _ _=>rfl))))))))
   (aqE (aqN (PW.pt (gqu (aqj bqk (aqi aqJ (aqi aqz (pv 0) aqd) aqd) aqd (nomark _)) (eqp (aqj bqk (aqi aqJ (pv 6) aqd) aqd (nomark _)))))
    (aqe (aqk (i:=7) aqL.nd rfl (Or.inl rfl) (aqi (aqB (K:=K)) (pv 7) (aqw (aqh (K:=K) rfl) (pv 2) (aqi aqJ (aqi aqz (pv 0) aqd) aqd) (fun _ _=>rfl))))) aqr)
   (aqe (cqo (cqs (K:=K) rfl PySem.F.plainAttrs_list PySem.F.slot_list_append PySem.F.type_list_append bqu (pv 5) (aqa (pv 7) aqb))))))))
   (aqe (aql (pv 5)))))))),?_⟩
  have eL:Str.ofString "abcdefghijklmnopqrstuvwxyz"=⟨smaL.toArray⟩:=by unfold smaL;simp
  rw[eL]
  walk_at "rd"
  refine⟨by decide,⟨by decide,by decide⟩,by lia,by decide,fun p H1 n1 s1 e1=>⟨by lia,by lia,?_⟩⟩
  rw[Int.toNat_natCast]
  obtain⟨sz,am,aw,av⟩:∃sz:Nat,1+c % 7=(sz:Int)∧1≤sz∧sz≤7:=⟨(1+c % 7).toNat,by lia,by lia,by lia⟩
  rw[am]
  obtain⟨ac,ha,au⟩:∃a:Nat,c / 7 % (sz:Int)=(a:Int)∧a < sz:=by
   have h1:=Int.emod_nonneg (c / 7) (show (sz:Int)≠0 by lia)
   have h2:=Int.emod_lt_of_pos (c / 7) (show 0 < (sz:Int) by lia)
   exact⟨(c / 7 % (sz:Int)).toNat,by lia,by lia⟩
  rw[ha]
  obtain⟨X,hX⟩:∃X:Int,X=c / (49+11 * (ac:Int))+3 * (ac:Int) * (ac:Int):=⟨_,rfl⟩
  refine fqm (fun i σ H'=>∃(ns:List (List Nat)) (v6 v7 v8 v9:Option V),σ=[some (.int c),some (.int (m:Int)),some (tV smaL),some (.int (sz:Int)),some (.int (ac:Int)),some (.ref p),v6,v7,v8,v9]∧ns.length=i∧(∀n∈ns,0 < n.length∧n.length≤8∧n.all isSma=true)∧(∀(k:Nat) (n:List Nat),ns[k]?=some n->NmAt X ac k n)∧Same H H'∧H' p=some (.lst (ns.map tV))) ⟨[],none,none,none,none,rfl,rfl,by simp,(fun k n h=>by cases h),s1,e1⟩ ?_ ?_
  ·rintro i σ H2 hi ⟨ns,v6,v7,v8,v9,rfl,hl,ag,ah,s2,e2⟩
   walk_at "rd"
   refine⟨fun σ H3=>H3=H2∧∃(l:List Nat) (v8 v9:Option V),l.length=sz∧NmAt X ac i l∧l.all isSma=true∧σ=[some (.int c),some (.int (m:Int)),some (tV smaL),some (.int (sz:Int)),some (.int (ac:Int)),some (.ref p),some (.int (0+(i:Int))),some (tV l),v8,v9],?_,?_⟩
   ·refine⟨by lia,by lia,?_⟩
    rw[Int.toNat_natCast]
    refine fqm (fun j σ H3=>H3=H2∧∃(l:List Nat) (v8 v9:Option V),l.length=j∧(ac < j->NmAt X ac i l)∧l.all isSma=true∧σ=[some (.int c),some (.int (m:Int)),some (tV smaL),some (.int (sz:Int)),some (.int (ac:Int)),some (.ref p),some (.int (0+(i:Int))),some (tV l),v8,v9]) ⟨rfl,[],_,_,rfl,(fun z=>absurd z (by lia)),rfl,rfl⟩ ?_ (fun σ H3 ⟨h1,l,v8,v9,h2,h3,h4,h5⟩=>⟨h1,l,v8,v9,h2,h3 au,h4,h5⟩)
    rintro j σ H3 hj ⟨rfl,l,v8,v9,ai,ae,af,rfl⟩
    walk_at "rd"
    refine⟨.inl ⟨by decide,by decide⟩,⟨by lia,by lia⟩,.inl ⟨by decide,by decide⟩,.inr ⟨by lia,by lia⟩,?_⟩
    refine⟨fun σ H4=>H4=H3∧∃x:Int,(j=ac->x=X+(i:Int))∧σ=[some (.int c),some (.int (m:Int)),some (tV smaL),some (.int (sz:Int)),some (.int (ac:Int)),some (.ref p),some (.int (0+(i:Int))),some (tV l),some (.int (0+(j:Int))),some (.int x)],?_,?_⟩
    ·refine ite2 (fun z=>⟨rfl,_,fun e=>?_,rfl⟩) (fun z=>⟨rfl,_,fun e=>absurd (by rw[e];lia) z,rfl⟩)
     rw[hX,e,Int.zero_add,Int.zero_add]
    rintro σ H4 ⟨rfl,x,hx,rfl⟩
    obtain⟨d,hd,aj⟩:=wqG x
    walk_at "rd"
    refine⟨by decide,d,by decide +kernel,hd,aqq (by lia),l++[d],_,_,by rw[length_append,length_singleton,ai],fun z=>?_,by rw[all_append,af];simp[aj],rfl,rfl,rfl⟩
    by_cases ej:j=ac
    ·rw[hx ej] at hd
     exact⟨d,by rw[List.getElem?_append_right (by lia),ai,ej,Nat.sub_self];rfl,hd⟩
    ·exact (ae (by lia)).app
   rintro σ H3 ⟨rfl,l,v8,v9,ai,ae,af,rfl⟩
   walk_at "rd"
   refine⟨fun σ H4=>H4=H3∧∃(l:List Nat),(0 < l.length∧l.length≤8∧l.all isSma=true)∧NmAt X ac i l∧σ=[some (.int c),some (.int (m:Int)),some (tV smaL),some (.int (sz:Int)),some (.int (ac:Int)),some (.ref p),some (.int (0+(i:Int))),some (tV l),v8,v9],?_,?_⟩
   ·have ad:H3=H3∧∃(l':List Nat),(0 < l'.length∧l'.length≤8∧l'.all isSma=true)∧NmAt X ac i l'∧[some (V.int c),some (.int (m:Int)),some (tV smaL),some (.int (sz:Int)),some (.int (ac:Int)),some (.ref p),some (.int (0+(i:Int))),some (tV l),v8,v9]=[some (V.int c),some (.int (m:Int)),some (tV smaL),some (.int (sz:Int)),some (.int (ac:Int)),some (.ref p),some (.int (0+(i:Int))),some (tV l'),v8,v9]:=⟨rfl,l,⟨by lia,by lia,af⟩,ae,rfl⟩
    refine⟨⟨by decide,by decide⟩,by decide,ite2 (fun _=>⟨by decide,ite2 (fun _=>?_) (fun _=>ad)⟩) (fun _=>ad)⟩
    obtain⟨d,hd,aj⟩:=wqG (c / 686)
    refine⟨⟨by decide,by decide⟩,by decide,d,by decide +kernel,hd,aqq (by lia),rfl,l++[d],⟨by rw[length_append,length_singleton];lia,by rw[length_append,length_singleton];lia,by rw[all_append,af];simp[aj]⟩,ae.app,?_⟩
    simp
   rintro σ H4 ⟨rfl,l2,ap,ao,rfl⟩
   walk_at "rd"
   refine⟨⟨_,.of e2⟩,_,e2,by rw[length_map];exact Nat.lt_of_le_of_lt (show ns.length≤26 by lia) (by decide),ns++[l2],_,_,_,_,⟨rfl,rfl,rfl,rfl⟩,by rw[length_append,length_singleton,hl],fun n hn=>?_,fun k n hk=>?_,jqA n1 s2,by rw[aqm,map_append];rfl⟩
   rcases mem_append.mp hn with z|z
   ·exact ag n z
   ·rw[mem_singleton.mp z];exact ap
   ·by_cases ar:k < ns.length
    ·rw[List.getElem?_append_left ar] at hk
     exact ah k n hk
    ·rw[List.getElem?_append_right (by lia)] at hk
     have aq:k - ns.length=0:=by
      cases hh:k - ns.length with
      |zero=>rfl
      |succ z=>rw[hh] at hk;cases hk
     rw[aq] at hk
     cases hk
     rw[show k=i by lia]
     exact ao
  ·rintro σ H2 ⟨ns,v6,v7,v8,v9,rfl,hl,ag,ah,s2,e2⟩
   walk_at "rd"
   exact k ns p H2 hl ag (vqJ ah (by lia)) s2 e2
theorem nqB (g:G K mg):FnOk P w K mg base CX0 1 g.eqI g.eqa [] jqn:=by
 refine g.hqe.ok iqI (fun vs H Q E h=>?_) (fun ad A ac s H vs Q E hr h=>?_)
 ·obtain⟨rfl,_⟩:=h;rfl
 ·obtain⟨rfl,k⟩:=h
  refine⟨_,(aqc (aqk (i:=0) iqI.nd rfl (Or.inl rfl) aqg)
   (aqe (aql (aqi (aqR (K:=K) rfl) (pv 0) aqg)))),?_⟩
  walk_at "rd"
  rw[show Str.ofString " !\"#$&'()*+,-./0123456789:;<=>?@ABCDEFGHIJKLMNOPQRSTUVWXYZ" ++ Str.ofString "[\\]^_`abcdefghijklmnopqrstuvwxyz{|}~"=⟨SG.toArray⟩ by decide +kernel]
  exact⟨by decide +kernel,k⟩
theorem oql (g:G K mg):FnOk P w K mg base CX0 1 g.fqS g.eq0 ["_law_pattern_here"] (oqR K):=by
 refine g.iqx.ok oq2 (fun vs H Q E h=>?_) (fun ah A ad s H vs Q E hr h=>?_)
 ·obtain⟨cs,e,p,rfl,_⟩:=h;rfl
 ·obtain⟨cs,e,p,rfl,⟨q,xs,hp,hq,hx⟩,ag,k⟩:=h
  refine⟨_,(aqe (aql (iqk (fx:=[]) (fr:=[]) rfl rfl (by decide +kernel) rfl (by decide +kernel) rfl (by decide +kernel) rfl .nil rfl (jq0 (K:=K) rfl (aqw (aqh (K:=K) rfl) (pv 0) aqd (fun _ _=>rfl))) (fun _ _ _=>(sqX (aqj lqi (aqw (aqh (K:=K) rfl) (pv 0) aqd (fun _ _=>rfl)) aqg (nomark _)))) (fun _ _ _=>(pv 0))))),?_⟩
  walk_at "rd"
  have af:=hx.length
  refine⟨_,_,.inr (.of hp),aqs (j:=0) rfl,q,rfl,⟨_,.of hq⟩,fun l nl=>?_⟩
  refine mqY (fun i=>((cs[i]?.map fun c=>!c.isStep)).getD false) (fun i=>xs[i]?.getD .non) (.of hq) (aqq (by lia)) nl (fun i x ac H1 R s1 hR=>?_) (fun i x ac ht H1 T s1 hT=>?_) (fun H1 s1 ae=>?_)
  ·obtain⟨c,b,hc,rfl,hb⟩:=hx.get ac
   rw[hc] at hR
   walk_at "rd"
   refine⟨_,_,.inr (.of (s1 _ _ hb)),c.at0,nqY.mpr ⟨_,rfl,?_⟩⟩
   rw[pqZ]
   exact hR H1 (Same.refl _)
  ·rw[ac] at hT
   walk_at "rd"
   exact hT H1 (Same.refl _)
  ·refine k l _ H1 nl s1 ae ?_
   have:=(hx.mono s1.toT).pick ((List.range xs.length).filter fun i=>((cs[i]?.map fun c=>!c.isStep)).getD false) (fun i hi=>mem_range.mp (mem_filter.mp hi).1)
   have e:=hqd (fun c:Pc=>!c.isStep) (fun c=>c) (Pc.gap []) cs
   rw[List.map_id',<- af] at e
   rw[<- e]
   have e2:(((List.range xs.length).filter fun i=>((cs[i]?.map fun c=>!c.isStep)).getD false).map fun i=>(cs[i]?.map fun c=>c).getD (Pc.gap []))=((List.range xs.length).filter fun i=>((cs[i]?.map fun c=>!c.isStep)).getD false).map fun i=>cs[i]?.getD (Pc.gap []):=by
    apply List.map_congr_left
    intro i _
    rw[Option.map_id']
   rw[e2]
   exact this
theorem lqx (g:G K mg):FnOk P w K mg base CX0 1 g.dqf g.cqC ["_law_piece_here"] (lqP K):=by
 refine g.fqh.ok lqe (fun vs H Q E h=>?_) (fun ae A ac s H vs Q E hr h=>?_)
 ·obtain⟨c,p,rfl,_⟩:=h;rfl
 ·obtain⟨c,p,rfl,hp,ad,k⟩:=h
  refine⟨_,(aqe (aql (bqd (aqj bqk (aqw (aqh (K:=K) rfl) (pv 0) aqd (fun _ _=>rfl)) aqg (nomark _)) (aqw (aqh (K:=K) rfl) (pv 0) aqd (fun _ _=>rfl)) (aqw (aqh (K:=K) rfl) (pv 0) aqd (fun _ _=>rfl))))),?_⟩
  walk_at "rd"
  refine⟨_,_,.inr hp,c.at0,?_⟩
  refine L2.aq0.mpr ⟨_,rfl,?_⟩
  rw[jqO]
  cases c with
  |part h n t=>exact ite2 (fun _=>⟨_,_,.inr hp,aqs (j:=2) rfl,k⟩) (fun z=>absurd rfl z)
  |step w=>cases ad
  |_=>exact ite2 (fun z=>by cases z) (fun _=>⟨_,_,.inr hp,aqs (j:=1) rfl,k⟩)
theorem mql (g:G K mg):FnOk P w K mg base CX0 1 g.dqX g.cq6 ["_law_pattern_here","_law_values_here"] (mqg K):=by
 refine g.fqG.ok bq3 (fun vs H Q E h=>?_) (fun bd A aj s H vs Q E hr h=>?_)
 ·obtain⟨cs,e,p,l,l0,bs,ys,rfl,_⟩:=h;rfl
 ·obtain⟨cs,e,p,l,l0,bs,ys,rfl,⟨q,xs,hp,hq,hx⟩,al,ay,az,hG,av,hl,hB,k⟩:=h
  refine⟨_,(aqc (aqk (i:=2) bq3.nd rfl (Or.inl rfl) (aq8 (sqr rfl) rfl g.wqc yqi (aqa (pv 1) aqb)))
   (aqc (aqk (i:=3) bq3.nd rfl (Or.inl rfl) (aqG aqb))
   (aqc (gq1 PassesOwn.never rfl (jq0 (K:=K) rfl (aqw (aqh (K:=K) rfl) (pv 0) aqd (fun _ _=>rfl))) (aqX (i:=4) bq3.nd rfl (Or.inl rfl))
   (aqe (aqN (aqj bqk (aqw (aqh (K:=K) rfl) (pv 4) aqd (fun _ _=>rfl)) aqg (nomark _))
    (aqe (cqo (cqs (K:=K) rfl PySem.F.plainAttrs_list PySem.F.slot_list_append PySem.F.type_list_append bqu (pv 3) (aqa (aqw (aqh (K:=K) rfl) (pv 4) aqd (fun _ _=>rfl)) aqb)))) (aqe (aqN (aqj bqk (aqw (aqh (K:=K) rfl) (pv 4) aqd (fun _ _=>rfl)) aqg (nomark _))
    (aqe (cqo (cqs (K:=K) rfl PySem.F.plainAttrs_list PySem.F.slot_list_append PySem.F.type_list_append bqu (pv 3) (aqa (aqi (aqB (K:=K)) (aqi (aqB (K:=K)) (aqw (aqh (K:=K) rfl) (pv 4) aqd (fun _ _=>rfl)) (pqQ hr.units1 (pv 2) (aqw (aqh (K:=K) rfl) (pv 4) aqd (fun _ _=>rfl)) (fun _ _=>rfl))) (aqw (aqh (K:=K) rfl) (pv 4) aqd (fun _ _=>rfl))) aqb)))) (aqe (aqN (aqj bqk (aqw (aqh (K:=K) rfl) (pv 4) aqd (fun _ _=>rfl)) aqg (nomark _))
    (aqe (aqk (i:=3) bq3.nd rfl (Or.inl rfl) (aqi (aqB (K:=K)) (pv 3) (pqQ hr.units1 (pv 2) (aqw (aqh (K:=K) rfl) (pv 4) aqd (fun _ _=>rfl)) (fun _ _=>rfl))))) (aqe (cqo (cqs (K:=K) rfl PySem.F.plainAttrs_list PySem.F.slot_list_append PySem.F.type_list_append bqu (pv 3) (aqa (aq8 sqP rfl g.pq0 mq4 (aqa (pqQ hr.units1 (pv 2) (aqw (aqh (K:=K) rfl) (pv 4) aqd (fun _ _=>rfl)) (fun _ _=>rfl)) aqb)) aqb)))))))))))
   (aqe (aql (aqy (aqa kqJ (aqa (aq8 (cqS (K:=K) rfl) rfl g.gqM fqK (aqa (pv 3) aqb)) (aqa (aqw (aqh (K:=K) rfl) (pv 0) aqd (fun _ _=>rfl)) aqb))))))))),?_⟩
  walk_at "rd"
  have ap:=hx.length
  have hyl:=hB.length
  have au:=hG.names
  have bc:bs.length≤12:=by
   have h1:=nqT cs
   rw[<- au,length_map] at h1
   lia
  obtain⟨ac,a1,a2,a3,a4⟩:=hB.kvs
  have ao:(ac.map (·.1)).Nodup:=by
   rw[a1,show (bs.map fun b=>(Sum.inr ⟨b.1.toArray⟩:Key))=(gapsM cs).map (fun n=>(Sum.inr ⟨n.toArray⟩:Key)) by rw[<- au,map_map];rfl]
   exact List.Pairwise.map _ (fun a b h z=>h (by injection z with z;exact dqC.mp z)) av
  refine⟨l,ys,ac,rfl,hl,a2,by lia,a3,fun d nd=>?_⟩
  have s1:Same H (upd H d (.dK (mergeK [] ac))):=bqc nd
  have am:(upd H d (.dK (mergeK [] ac))) d=some (.dK (mergeK [] ac)):=aqm
  generalize upd H d (.dK (mergeK [] ac))=H1 at s1 am
  refine⟨by decide,fun lz H2 n2 s2 ax=>⟨_,_,.inr (.of ((s1.trans s2) _ _ hp)),aqs (j:=0) rfl,q,rfl,⟨_,.of ((s1.trans s2) _ _ hq)⟩,?_⟩⟩
  refine rql (xs:=xs) (fun i σ H'=>Same H1 H'∧∃(lz:Addr) (b1 b2:List (List Nat×Vl)) (v4:Option V),σ=[some (.ref p),some (.ref l),some (.ref d),some (.ref lz),v4]∧H1 lz=none∧bs=b1++b2∧GvA (cs.take i) b1∧GvA (cs.drop i) b2∧H' lz=some (.lst ((stpsM (cs.take i) b1).map tV))) ⟨s2,lz,[],bs,none,rfl,n2,rfl,.nil,hG,ax⟩ (fun i σ H' _ h=>.of ((s1.trans h.1) _ _ hq)) ?_ ?_
  rotate_left
  ·rintro σ H3 ⟨s3,lz,b1,b2,v4,rfl,n3,eb,g1,g2,ad⟩
   rw[ap,List.drop_length] at g2
   cases g2
   rw[ap,take_length] at ad
   rw[append_nil] at eb
   subst eb
   walk_at "rd"
   refine⟨_,.inl (.of ad),fun tp H4 s4 ht=>⟨_,_,.inr (.of ((s1.trans (s3.trans s4)) _ _ hp)),aqs (j:=1) rfl,by decide,fun pw H5 n5 s5 e5=>k pw tp H5 (s1.trans (s3.trans (s4.trans s5))) e5 (s5 _ _ ht)⟩⟩
  rintro i v σ H3 hv ⟨s3,lz,b1,b2,v4,rfl,n3,eb,g1,g2,ad⟩
  obtain⟨c,b,hc,rfl,hb⟩:=hx.get hv
  have hi:i < cs.length:=(List.getElem?_eq_some_iff.mp hc).1
  have ae:=(s1.trans s3) _ _ hb
  have co:=al c (mem_of_getElem? hc)
  rw[sq4 hc] at g2
  have et:cs.take (i+1)=cs.take i++[c]:=by rw[take_add_one,hc];rfl
  have gA:=qqP g1 (fun c hc=>al c (mem_of_mem_take hc)) (sqn ay i)
  have aq:(stpsM (cs.take i) b1).length≤100:=by have:=gA.mx;rw[length_take] at this;lia
  have aw:((stpsM (cs.take i) b1).map tV).length < sizeLine:=by rw[length_map];exact Nat.lt_of_le_of_lt aq (by decide)
  have af:∀{s:List Nat}{b1' b2':List (List Nat×Vl)},bs=b1'++b2'->GvA (cs.take (i+1)) b1'->GvA (cs.drop (i+1)) b2'->stpsM (cs.take (i+1)) b1'=stpsM (cs.take i) b1++[s]->∃zs,H3 lz=some (.lst zs)∧zs.length < sizeLine∧Same H1 (upd H3 lz (.lst (zs++[tV s])))∧∃(lz_1:Addr) (b1 b2:List (List Nat×Vl)) (v4:Option V),(lz=lz_1∧some (V.ref b)=v4)∧H1 lz_1=none∧bs=b1++b2∧GvA (cs.take (i+1)) b1∧GvA (cs.drop (i+1)) b2∧upd H3 lz (.lst (zs++[tV s])) lz_1=some (.lst ((stpsM (cs.take (i+1)) b1).map tV)):=fun h1 h2 h3 h4=>⟨_,ad,aw,jqA n3 s3,lz,_,_,_,⟨rfl,rfl⟩,n3,h1,h2,h3,by rw[aqm,h4,map_append];rfl⟩
  walk_at "rd"
  refine⟨_,_,.inr (.of ae),c.at0,aq0.mpr ⟨_,rfl,?_⟩⟩
  rw[pqZ]
  refine ite2 (fun h1=>?_) (fun h1=>⟨_,_,.inr (.of ae),c.at0,aq0.mpr ⟨_,rfl,?_⟩⟩)
  ·obtain⟨w,rfl⟩:=Aqa h1
   cases g2 with
    |gap z _ _=>cases z
    |step g2=>exact⟨⟨_,.of ad⟩,_,_,.inr (.of ae),aqs (j:=1) rfl,af eb (by rw[et];exact g1.snocS) g2 (by rw[et];exact (pqc g1).1 w)⟩
  rw[jqO]
  cases g2 with
  |step g2=>exact absurd rfl h1
  |@gap _ x _ b2 cst gx g2=>
   obtain⟨w,w1,w2⟩:=a4 (c.name,x) (by rw[eb];simp)
   have hg:valV (mergeK [] ac) (Sum.inr ⟨c.name.toArray⟩)=some w:=oqh ac [] _ w ao w1
   have ai:DGet H3 d (tV c.name) (some w):=by rw[<- hg];exact DGet.k (k:=Sum.inr (⟨c.name.toArray⟩:Str)) (s3 _ _ am)
   have ah:bs=(b1++[(c.name,x)])++b2:=by rw[eb];simp
   have ag:GvA (cs.take (i+1)) (b1++[(c.name,x)]):=by rw[et];exact g1.snoc cst gx
   have es:stpsM (cs.take (i+1)) (b1++[(c.name,x)])=stpsM (cs.take i) b1++stM c x:=by rw[et];exact (pqc g1).2 c _ cst
   refine ite2 (fun h2=>?_) (fun h2=>⟨_,_,.inr (.of ae),c.at0,aq0.mpr ⟨_,rfl,?_⟩⟩)
   ·obtain⟨a,n,t,rfl⟩:=yqZ h2
    ·obtain⟨s,rfl,y1,y2,y3,y4⟩:=gx
     obtain⟨o1,o2,o3,o4,o5⟩:=co
     cases w2
     refine⟨⟨_,.of ad⟩,_,_,.inr (.of ae),aqs (j:=1) rfl,_,_,.inr (.of ae),aqs (j:=2) rfl,d,_,rfl,ai,dqA.mpr ⟨aqq (by rw[aqT,aqT];lia),_,_,.inr (.of ae),aqs (j:=3) rfl,?_⟩⟩
     rw[dqq]
     refine dqA.mpr ⟨aqq (by rw[aqT,aqT,length_append];lia),?_⟩
     rw[dqq]
     exact af ah ag g2 es
   rw[nqV]
   refine ite2 (fun h5=>?_) (fun h5=>⟨⟨_,.of ad⟩,_,_,.inr (.of ae),aqs (j:=1) (v:=tV c.name) ?_,d,_,rfl,ai,?_⟩)
   ·obtain⟨n,rfl⟩:=zqM h5
    ·obtain⟨ls,rfl,y1,y2,y3⟩:=gx
     obtain⟨qq,rfl,ar⟩:=w2
     refine⟨_,_,.inr (.of ae),aqs (j:=1) rfl,d,_,rfl,ai,.inl ⟨_,_,ad,(s1.trans s3) _ _ ar,aqq (by rw[length_map,length_map];lia),fun p4 H4 n4 s4 e4=>⟨s3.trans s4,p4,_,_,_,⟨rfl,rfl⟩,oqT s3 n4,ah,ag,g2,?_⟩⟩⟩
     rw[e4,es,map_append]
     rfl
   ·exact AqK h1 h2
   rcases zqX h1 h2 h5 with⟨n,rfl⟩|⟨n,rfl⟩|⟨n,rfl⟩
   ·obtain⟨z,rfl,z0,z1⟩:=gx
    cases w2
    refine .inl ⟨z,rfl,?_,af ah ag g2 es⟩
    by_cases h0:z.natAbs=0
    ·rw[h0];decide
    ·rw[Nat.log2_lt h0]
     have:z.natAbs < 10 ^ 60:=by lia
     exact Nat.lt_of_lt_of_le this (by decide +kernel)
   ·obtain⟨s,rfl,_⟩:=gx
    cases w2
    exact .inr ⟨_,rfl,af ah ag g2 (by rw[es];show _++[[]++s++[]]=_;simp)⟩
   ·obtain⟨s,rfl,_⟩:=gx
    cases w2
    exact .inr ⟨_,rfl,af ah ag g2 (by rw[es];show _++[[]++s++[]]=_;simp)⟩
theorem kqa (g:G K mg):FnOk P w K mg base CX0 1 g.fqI g.eqE ["_law_cell","_law_text_here"] (oqQ K):=by
 refine g.gqh.ok aq7 (fun vs H Q E h=>?_) (fun ar A ae s H vs Q E hr h=>?_)
 ·obtain⟨c,t,rfl,_⟩:=h;rfl
 ·obtain⟨c,t,rfl,ht,k⟩:=h
  refine⟨_,(aqc (aqk (i:=2) aq7.nd rfl (Or.inl rfl) (aqw (aqh (K:=K) rfl) (aqG (aqa aqg (aqa aqg (aqa aqg (aqa aqg (aqa aqg aqb)))))) (aqi aqJ (pv 0) aqd) (fun _ _=>rfl)))
   (aqc (aqk (i:=3) aq7.nd rfl (Or.inl rfl) (aqw (aqh (K:=K) rfl) (aqG (aqa aqM (aqa (aqi (aqB (K:=K)) (pv 1) aqg) (aqa aqg (aqa aqg aqb))))) (aqi aqJ (aqi aqz (pv 0) aqd) aqd) (fun _ _=>rfl)))
   (aqc (aqk (i:=4) aq7.nd rfl (Or.inl rfl) aqM)
   (aqE (aqN (aqj nqj (pv 3) aqM (nomark _))
    (aqe (aqk (i:=4) aq7.nd rfl (Or.inl rfl) (aqw (aqh (K:=K) rfl) (aqG (aqa aqM (aqa aqd (aqa aqd (aqa aqd (aqa (aqi aqJ (aqi aqz (pv 0) aqd) aqd) aqb)))))) (aqi aqJ (aqi aqz (pv 0) aqd) aqd) (fun _ _=>rfl)))) aqr)
   (aqE (aqk (i:=5) aq7.nd rfl (Or.inl rfl) (aqw (aqh (K:=K) rfl) (aqG (aqa (aqy aqb) (aqa (aqy (aqa aqg aqb)) (aqa (aqy (aqa aqg (aqa aqg aqb))) (aqa (aqy (aqa (aqi (aqB (K:=K)) (pv 1) aqg) (aqa aqg (aqa aqg aqb)))) aqb))))) (aqi aqJ (aqi aqz (pv 0) aqd) aqd) (fun _ _=>rfl)))
   (aqE (aqk (i:=6) aq7.nd rfl (Or.inl rfl) (rqA (aq5 lqi (pv 2) aqg (nomark _)) (rqA (aq5 nqj (pv 3) aqM (nomark _)) (dqp (aq5 bqk (aqi aqJ (aqi aqz (pv 0) aqd) aqd) aqd (nomark _))))))
   (aqE (aqk (i:=7) aq7.nd rfl (Or.inl rfl) (aqw (aqh (K:=K) rfl) (aqG (aqa aqM (aqa (aqy aqb) (aqa (aqy (aqa (aqy (aqa aqg (aqa aqM aqb))) (aqa (aqy (aqa aqg (aqa (pv 1) aqb))) aqb))) (aqa (aqy (aqa (aqy (aqa aqg (aqa aqg aqb))) aqb)) aqb))))) (aqi aqJ (aqi aqz (pv 0) aqd) aqd) (fun _ _=>rfl)))
   (aqE (aqk (i:=8) aq7.nd rfl (Or.inl rfl) (aqw (aqh (K:=K) rfl) (aqG (aqa aqM (aqa aqg (aqa (pv 1) (aqa aqg aqb))))) (aqi aqJ (aqi aqz (pv 0) aqd) aqd) (fun _ _=>rfl)))
   (aqe (aql (aqy (aqa (pv 2) (aqa (pv 3) (aqa (pv 4) (aqa (aqy (aqa (pv 6) (aqa (pv 5) (aqa (bqd (aqj (nqa hr.units) (pv 5) (aqy aqb) (nomark _)) (pv 6) (aq5 bqk (aqi aqJ (aqi aqz (pv 0) aqd) aqd) aqd (nomark _))) aqb)))) (aqa (pv 7) (aqa (pv 8) aqb))))))))))))))))),?_⟩
  have e0:Str.ofString "x"=⟨[120].toArray⟩:=by decide +kernel
  have e1:Str.ofString "Ab1"=⟨[65,98,49].toArray⟩:=by decide +kernel
  have e2:Str.ofString "abcdefgh"=⟨[97,98,99,100,101,102,103,104].toArray⟩:=by decide +kernel
  have e3:Str.ofString "h9"=⟨[104,57].toArray⟩:=by decide +kernel
  have e4:Str.ofString "h"=⟨[104].toArray⟩:=by decide +kernel
  have e5:Str.ofString "a.B-c"=⟨[97,46,66,45,99].toArray⟩:=by decide +kernel
  have e6:Str.ofString ":/?#@"=⟨[58,47,63,35,64].toArray⟩:=by decide +kernel
  have e7:Str.ofString "a"=⟨[97].toArray⟩:=by decide +kernel
  have e8:Str.ofString ".."=⟨[46,46].toArray⟩:=by decide +kernel
  have e9:Str.ofString "b c"=⟨[98,32,99].toArray⟩:=by decide +kernel
  have ap:Str.ofString "s"=⟨[115].toArray⟩:=by decide +kernel
  have ao:Str.ofString "/"=⟨[47].toArray⟩:=by decide +kernel
  have am:Str.ofString "."=⟨[46].toArray⟩:=by decide +kernel
  have al:Str.ofString "b&"=⟨[98,38].toArray⟩:=by decide +kernel
  have aj:Str.ofString "="=⟨[61].toArray⟩:=by decide +kernel
  have ai:Str.ofString "#m"=⟨[35,109].toArray⟩:=by decide +kernel
  rw[e0,e1,e2,e3,e4,e5,e6,e7,e8,e9,ap,ao,am,al,aj,ai]
  walk_at "rd"
  have htl:=ht.1
  refine⟨by decide,fun p1 H1 n1 s1 h1=>⟨by decide,_,_,.inl (.of h1),jq4 schL tV [] c 5 rfl (by decide),aqq (by lia),by decide,fun p2 H2 n2 s2 h2=>?_⟩⟩
  refine⟨⟨by decide,by decide⟩,by decide,_,_,.inl (.of h2),jq4 (houL t) otV none (c / 5) 4 rfl (by decide),?_⟩
  have u2:=s1.trans s2
  have eS:schL.getD (c % 5).toNat []=schB c:=rfl
  have eH:(houL t).getD (c / 5 % 4).toNat none=houB c t:=rfl
  rw[eS,eH]
  have ac:otV (houB c t)=V.non↔houB c t=none:=by
   cases houB c t with
   |none=>exact⟨fun _=>rfl,fun _=>rfl⟩
   |some l=>exact⟨fun z=>(by cases z),fun z=>(by cases z)⟩
  refine⟨fun σ H3=>Same H H3∧σ=[some (.int c),some (tV t),some (tV (schB c)),some (otV (houB c t)),some (itV (dooB c t)),none,none,none,none],?_,?_⟩
  ·refine ite2 (fun hn=>⟨⟨by decide,by decide⟩,by decide,by decide,fun p3 H3 n3 s3 h3=>⟨⟨by decide,by decide⟩,by decide,_,_,.inl (.of h3),jq4 (dooL c) itV none (c / 20) 5 rfl (by decide),u2.trans s3,?_⟩⟩) (fun hn=>⟨u2,?_⟩)
   ·have e:dooB c t=(dooL c).getD (c / 20 % 5).toNat none:=if_neg fun z=>hn (ac.mpr z)
    rw[e]
   ·have e:dooB c t=none:=if_pos (ac.mp (Classical.not_not.mp hn))
    rw[e]
    rfl
  rintro σ H3 ⟨s3,rfl⟩
  walk_at "rd"
  refine⟨fun σ H4=>Same H H4∧∃v5:V,σ=[some (.int c),some (tV t),some (tV (schB c)),some (otV (houB c t)),some (itV (dooB c t)),some v5,none,none,none]∧IsT H4 (.tuple ((stpB c t).map st)) v5,?_,?_⟩
  ·refine⟨by decide,fun q1 G1 m1 r1 g1=>⟨by decide,fun q2 G2 m2 r2 g2=>⟨by decide,fun q3 G3 m3 r3 g3=>⟨aqq (by lia),by decide,fun q4 G4 m4 r4 g4=>⟨by decide,fun q5 G5 m5 r5 g5=>⟨⟨by decide,by decide⟩,by decide,?_⟩⟩⟩⟩⟩⟩
   have a4:=r4.trans r5
   have a3:=r3.trans a4
   have a2:=r2.trans a3
   have ad:IsTAll G5 ((stpL t).map fun ss=>PyData.tuple (ss.map st)) [.ref q1,.ref q2,.ref q3,.ref q4]:=.cons (.tup (a2 _ _ g1) .nil) (.cons (.tup (a3 _ _ g2) (.cons (.str _) .nil)) (.cons (.tup (a4 _ _ g3) (.cons (.str _) (.cons (.str _) .nil))) (.cons (.tup (r5 _ _ g4) (.cons (.str _) (.cons (.str _) (.cons (.str _) .nil)))) .nil)))
   obtain⟨v,h1,h2⟩:=uqk (f:=fun ss=>PyData.tuple (ss.map st)) [] (c / 100) 4 ad rfl (by decide)
   exact⟨_,_,.inl (.of g5),h1,s3.trans (r1.trans a2),v,rfl,h2⟩
  rintro σ H4 ⟨s4,v5,rfl,h5⟩
  walk_at "rd"
  refine⟨fun σ H5=>Same H H5∧σ=[some (.int c),some (tV t),some (tV (schB c)),some (otV (houB c t)),some (itV (dooB c t)),some v5,some (.bl (rooB c t)),none,none]∧IsT H5 (.tuple ((stpB c t).map st)) v5,?_,?_⟩
  ·unfold rooB
   refine ite2 (fun hn=>⟨s4,?_,h5⟩) (fun hn=>ite2 (fun hh=>⟨s4,?_,h5⟩) (fun hh=>⟨⟨by decide,by decide⟩,by decide,s4,?_,h5⟩))
   ·rw[decide_eq_false (fun z=>hn (by rw[z]))]
    rfl
   ·rw[decide_eq_true (jqz.mp (Classical.not_not.mp hn)),decide_eq_false (fun z=>hh (ac.mpr z))]
    rfl
   ·rw[decide_eq_true (jqz.mp (Classical.not_not.mp hn)),decide_eq_true (ac.mp (Classical.not_not.mp hh))]
    rfl
  rintro σ H5 ⟨s5,rfl,h6⟩
  walk_at "rd"
  refine⟨fun σ H6=>Same H H6∧∃v7:V,σ=[some (.int c),some (tV t),some (tV (schB c)),some (otV (houB c t)),some (itV (dooB c t)),some v5,some (.bl (rooB c t)),some v7,none]∧IsT H6 (.tuple ((stpB c t).map st)) v5∧IsT H6 (qD (queB c t)) v7,?_,?_⟩
  ·refine⟨by decide,fun q1 G1 m1 r1 g1=>⟨by decide,fun q2 G2 m2 r2 g2=>⟨by decide,fun q3 G3 m3 r3 g3=>⟨by decide,fun q4 G4 m4 r4 g4=>⟨by decide,fun q5 G5 m5 r5 g5=>⟨by decide,fun q6 G6 m6 r6 g6=>⟨by decide,fun q7 G7 m7 r7 g7=>⟨⟨by decide,by decide⟩,by decide,?_⟩⟩⟩⟩⟩⟩⟩⟩
   have a6:=r6.trans r7
   have a5:=r5.trans a6
   have a4:=r4.trans a5
   have a3:=r3.trans a4
   have a2:=r2.trans a3
   have ad:IsTAll G7 ((queL t).map qD) [.non,.ref q1,.ref q4,.ref q6]:=.cons .non (.cons (.tup (a2 _ _ g1) .nil) (.cons (.tup (a5 _ _ g4) (.cons (.tup (a3 _ _ g2) (.cons (.str _) (.cons .non .nil))) (.cons (.tup (a4 _ _ g3) (.cons (.str _) (.cons (.str _) .nil))) .nil))) (.cons (.tup (r7 _ _ g6) (.cons (.tup (a6 _ _ g5) (.cons (.str _) (.cons (.str _) .nil))) .nil)) .nil)))
   obtain⟨v,h1,h2⟩:=uqk (f:=qD) none (c / 800) 4 ad rfl (by decide)
   have a1:=r1.trans a2
   exact⟨_,_,.inl (.of g7),h1,s5.trans a1,v,rfl,h6.mono a1.toT,h2⟩
  rintro σ H6 ⟨s6,v7,rfl,h7,h8⟩
  walk_at "rd"
  refine⟨fun σ H7=>Same H H7∧σ=[some (.int c),some (tV t),some (tV (schB c)),some (otV (houB c t)),some (itV (dooB c t)),some v5,some (.bl (rooB c t)),some v7,some (otV (marB c t))]∧IsT H7 (.tuple ((stpB c t).map st)) v5∧IsT H7 (qD (queB c t)) v7,?_,?_⟩
  ·exact⟨by decide,fun q1 G1 m1 r1 g1=>⟨⟨by decide,by decide⟩,by decide,_,_,.inl (.of g1),jq4 (marL t) otV none (c / 3200) 4 rfl (by decide),s6.trans r1,rfl,h7.mono r1.toT,h8.mono r1.toT⟩⟩
  rintro σ H7 ⟨s7,rfl,h9,ah⟩
  walk_at "rd"
  have aq:=tqQ ht c
  have ag:SeqAt.shaped (.tuple ((stpB c t).map st))=true:=(LayAt.tup (n:=0) fun d hd=>by
   obtain⟨x,hx,rfl⟩:=mem_map.mp hd
   exact LayAt.st (aq x hx).2).shaped (by decide)
  refine⟨by decide,fun q1 G1 m1 r1 g1=>⟨.tuple ((stpB c t).map st),.tuple (([]:List Stp).map st),(h9.mono r1.toT).is,.tup g1 .nil,ag,by decide +kernel,_,rfl,?_⟩⟩
  rw[uqT]
  have af:∀{G2 G3:Hp}{q2 q3:Addr}{e:Bool},Same G1 G2->Same G2 G3->G2 q2=some (.tup [.bl (rooB c t),v5,.bl e])->G3 q3=some (.tup [tV (schB c),otV (houB c t),itV (dooB c t),.ref q2,v7,otV (marB c t)])->endB c t=e->Q (.ref q3) G3:=fun {G2 G3 q2 q3 e} a2 a3 g2 g3 he=>by
   have a1:=(r1.trans a2).trans a3
   refine k _ G3 (s7.trans a1) (adT (x:=baseM c t) g3 (.tup (a3 _ _ g2) (.cons (.bl _) (.cons (h9.mono a1.toT) (.cons ?_ .nil)))) (ah.mono a1.toT))
   show IsT G3 (.bool (endB c t)) _
   rw[he]
   exact .bl _
  refine ite2 (fun h0=>⟨by decide,fun q2 G2 m2 r2 g2=>⟨by decide,fun q3 G3 m3 r3 g3=>af r2 r3 g2 g3 (if_pos (of_decide_eq_true h0))⟩⟩) (fun h0=>⟨⟨by decide,by decide⟩,by decide,by decide,fun q2 G2 m2 r2 g2=>⟨by decide,fun q3 G3 m3 r3 g3=>af r2 r3 g2 g3 (if_neg fun z=>h0 (decide_eq_true z))⟩⟩)
theorem pqD (g:G K mg):FnOk P w K mg base CX0 1 g.gqc g.eq8 ["_law_cell","_law_text_here"] (pqg K):=by
 refine g.iqm.ok kqn (fun vs H Q E h=>?_) (fun ae A ad s H vs Q E hr h=>?_)
 ·obtain⟨c,t,rfl,_⟩:=h;rfl
 ·obtain⟨c,t,rfl,ht,k0,k⟩:=h
  refine⟨_,(aqc (aqN (aqj bqk (aqi aqJ (pv 0) aqd) aqd (nomark _))
    (aqe (aql (aqG aqb))) aqr)
   (aqc (aqk (i:=2) kqn.nd rfl (Or.inl rfl) (aqw (aqh (K:=K) rfl) (aqG (aqa aqM (aqa (aqy aqb) (aqa (aqy (aqa (aqy (aqa (aqi (aqB (K:=K)) (pv 1) aqg) (aqa (pv 1) aqb))) aqb)) (aqa (aqy (aqa (aqy (aqa aqg (aqa aqM aqb))) (aqa (aqy (aqa aqg (aqa aqg aqb))) aqb))) aqb))))) (aqi aqJ (aqi aqz (pv 0) aqd) aqd) (fun _ _=>rfl)))
   (aqe (aql (aqG (aqa (pv 2) (aqa (aqw (aqh (K:=K) rfl) (aqG (aqa aqM (aqa aqg (aqa (pv 1) (aqa aqg aqb))))) (aqi aqJ (aqi aqz (pv 0) aqd) aqd) (fun _ _=>rfl)) aqb))))))),?_⟩
  have e0:Str.ofString "q"=⟨[113].toArray⟩:=by decide +kernel
  have e1:Str.ofString "?"=⟨[63].toArray⟩:=by decide +kernel
  have e2:Str.ofString "a="=⟨[97,61].toArray⟩:=by decide +kernel
  have e3:Str.ofString "&"=⟨[38].toArray⟩:=by decide +kernel
  have e4:Str.ofString "m#/"=⟨[109,35,47].toArray⟩:=by decide +kernel
  rw[e0,e1,e2,e3,e4]
  walk_at "rd"
  have htl:=ht.1
  refine⟨by decide,ite2 (fun h0=>⟨by decide,fun l H1 n1 s1 h1=>k0 h0 l H1 s1 h1⟩) (fun h0=>?_)⟩
  refine⟨by decide,fun q1 G1 m1 r1 g1=>⟨aqq (by lia),by decide,fun q2 G2 m2 r2 g2=>⟨by decide,fun q3 G3 m3 r3 g3=>⟨by decide,fun q4 G4 m4 r4 g4=>⟨by decide,fun q5 G5 m5 r5 g5=>⟨by decide,fun q6 G6 m6 r6 g6=>⟨by decide,fun q7 G7 m7 r7 g7=>⟨⟨by decide,by decide⟩,by decide,?_⟩⟩⟩⟩⟩⟩⟩⟩
  have a6:=r6.trans r7
  have a5:=r5.trans a6
  have a4:=r4.trans a5
  have a3:=r3.trans a4
  have a2:=r2.trans a3
  have a1:=r1.trans a2
  have ac:IsTAll G7 ((que2L t).map qD) [.non,.ref q1,.ref q3,.ref q6]:=.cons .non (.cons (.tup (a2 _ _ g1) .nil) (.cons (.tup (a4 _ _ g3) (.cons (.tup (a3 _ _ g2) (.cons (.str _) (.cons (.str _) .nil))) .nil)) (.cons (.tup (r7 _ _ g6) (.cons (.tup (a5 _ _ g4) (.cons (.str _) (.cons .non .nil))) (.cons (.tup (a6 _ _ g5) (.cons (.str _) (.cons (.str _) .nil))) .nil))) .nil)))
  obtain⟨v,h1,h2⟩:=uqk (f:=qD) none (c / 3) 4 ac rfl (by decide)
  have eq:queU c t=(que2L t).getD (c / 3 % 4).toNat none:=if_neg h0
  have em:marU c t=(mar2L t).getD (c / 12 % 4).toNat none:=if_neg h0
  refine⟨_,_,.inl (.of g7),h1,by decide,fun q8 G8 m8 r8 g8=>⟨⟨by decide,by decide⟩,by decide,_,_,.inl (.of g8),jq4 (mar2L t) otV none (c / 12) 4 rfl (by decide),by decide,fun q9 G9 m9 r9 g9=>?_⟩⟩
  exact k h0 q9 v G9 ((a1.trans r8).trans r9) (by rw[em];exact g9) (by rw[eq];exact h2.mono (r8.trans r9).toT)
theorem mq8 (g:G K mg):FnOk P w K mg base CX0 2 g.jqs g.hqI ["thing"] rq5:=by
 refine g.iqJ.ok rqw (fun vs H Q E h=>?_) (fun ad A ac s H vs Q E hr h=>?_)
 ·obtain⟨d,v,rfl,_⟩:=h;rfl
 ·obtain⟨d,v,rfl,hv,hs,k⟩:=h
  refine⟨_,(aqe (aql (fqu (aqF eqo rfl g.bqm aq4 (aqa (pv 0) (aqa (iqt (v:=.ty "str") rfl g.pq0 mq4 rfl) aqb))) (dqp (aqf (hqD g) (hr.mono (by decide)) rfl g.gq0 g.fqo.kp g.hqj .nil pass0 (aqa (pv 0) (aqa (aqx (v:=tq0) rfl g.pqV ⟨_,rfl⟩) aqb))))))),?_⟩
  cases hv with
  |lst hp r=>walk_at "rd";simp only[kq0 hp];walk_at "rd";exact k H (Same.refl _)
  |tup hp r=>walk_at "rd";simp only[lqa hp];walk_at "rd";exact k H (Same.refl _)
  |str x=>
   walk_at "rd"
   refine⟨x,_,rfl,fqx hs,fun H' sm=>?_⟩
   simp only[zqv]
   exact k H' sm
  |_=>walk_at "rd";exact k H (Same.refl _)
theorem rqL (g:G K mg):FnOk P w K mg base CX0 2 g.jqh g.hqG ["figures"] mqW:=by
 refine g.lqk.ok jqQ (fun vs H Q E h=>?_) (fun ad A ac s H vs Q E hr h=>?_)
 ·obtain⟨c,rfl,_⟩:=h;rfl
 ·obtain⟨l,rfl,hl,ha,k⟩:=h
  refine⟨_,(aqc (aqN (aqj lqi (aqF (aqO (K:=K) rfl) rfl g.fqn PySem.boot_len (aqa (pv 0) aqb)) aqd (nomark _))
    (aqe (aql aqM)) aqr)
   (aqc (aqk (i:=1) jqQ.nd rfl (Or.inl rfl) (aqf (gqo g) (hr.mono (by decide)) rfl g.eql g.cqP.kp g.eqq .nil pass0 (aqa (aqw (aqh (K:=K) rfl) (pv 0) aqd (fun _ _=>rfl)) aqb)))
   (aqc (aqk (i:=2) jqQ.nd rfl (Or.inl rfl) (aqf (gqo g) (hr.mono (by decide)) rfl g.eql g.cqP.kp g.eqq .nil pass0 (aqa (aqw (aqh (K:=K) rfl) (pv 0) aqd (fun _ _=>rfl)) aqb)))
   (aqc (aqN (PW.pt (kqO (aqj eqy (pv 1) aqM (nomark _)) (iqV (aqj eqy (pv 2) aqM (nomark _)))))
    (aqe (aql aqM)) aqr)
   (aqe (aql (aqf (kqL g) (hr.mono (by decide)) rfl g.gqB g.eqs.kp g.gqF .nil pass0 (aqa (aqi (aqR (K:=K) rfl) (aqi eqj (pv 1) aqd) (pv 2)) aqb)))))))),?_⟩
  walk_at "rd"
  have hz:l.length≤sizeLine:=aqq (by lia)
  refine⟨hz,ite2 (fun h=>?_) (fun h=>?_)⟩
  ·rw[sqs (by lia)] at k
   exact k
  ·obtain⟨a,b,rfl⟩:=yq7 (l:=l) (by lia)
   refine⟨a,hz,rfl,ha a (by simp),b,hz,rfl,ha b (by simp),?_⟩
   have k:Q (signOf a b) H:=k
   unfold signOf at k
   cases e1:fig a with
   |none=>
    rw[e1] at k
    rw[lqT e1]
    exact k
   |some x=>
    cases e2:fig b with
    |none=>
     rw[e1,e2] at k
     rw[gqC e1,lqT e2]
     exact k
    |some y=>
     rw[e1,e2] at k
     rw[gqC e1,gqC e2]
     walk_at "rd"
     exact⟨.inr ⟨by decide,by decide⟩,x * 16+y,by rw[Int.natCast_add,Int.natCast_mul];rfl,k⟩
theorem eqc (g:G K mg):FnOk P w K mg base CX0 2 g.iq8 g.hqP ["text"] fqp:=by
 refine g.dql.ok rqY (fun vs H Q E h=>?_) (fun af A ad s H vs Q E hr h=>?_)
 ·obtain⟨c,rfl,_⟩:=h;rfl
 ·obtain⟨l,rfl,hl,hs,k⟩:=h
  refine⟨_,(aqe (aql (cqs (K:=K) rfl PySem.F.plainAttrs_str PySem.F.slot_str_join PySem.F.type_str_join (kqW (K:=K) rfl) aqg (aqa (iqk (fx:=[]) (fr:=[]) rfl rfl (by decide +kernel) rfl (by decide +kernel) rfl (by decide +kernel) rfl .nil rfl (wqy (pv 0)) (fun _ _ _=>mqJ) (fun _ _ _=>(bqd (aqj oqk (pv 0) (aqx (v:=pqT) rfl g.pqY ⟨_,rfl⟩) (by with_unfolding_all rfl)) (pv 0) (aqf (rqG g) (hr.mono (by decide)) rfl g.oqX g.lqg.kp g.pqe .nil pass0 (aqa (pv 0) aqb))))) aqb)))),?_⟩
  walk_at "rd"
  intro p hp
  refine qqF (z:=⟨l.toArray⟩) (by rw[aqT];exact aqq (by lia)) hp (fun c=>.str ⟨(wr1 c).toArray⟩) (fun c hc H' R hR=>?_) (fun H' sm ae=>?_)
  ·have l1:=fqV (hs c hc)
   have e:=qq7 c (by lia)
   have ac:=hR H' (Same.refl _)
   walk_at "rd"
   unfold wr1 at ac
   refine ite2 (fun h=>?_) (fun h=>?_)
   ·rw[decide_eq_true h] at e
    rw[<- e,if_pos rfl] at ac
    exact ac
   ·rw[decide_eq_false h] at e
    rw[<- e,if_neg (by decide)] at ac
    exact⟨by lia,ac⟩
  ·walk_at "rd"
   refine⟨l.map fun c=>⟨(wr1 c).toArray⟩,SqL.of (by rw[ae,map_map];rfl),?_,?_⟩
   ·have h3:∀m:List Nat,((m.map fun c=>(⟨(wr1 c).toArray⟩:Str)).map (·.length)).sum≤3 * m.length:=fun m=>by
     induction m with
     |nil=>simp
     |cons c r ih=>
      have:=sq3 c
      simp only[map_cons,sum_cons,length_cons,aqT] at ih ⊢
      lia
    have:=h3 l
    simp only[length_map,length_nil,Nat.mul_zero,Nat.add_zero,aqT] at this ⊢
    lia
   ·rw[rqo]
    have e:((l.map fun c=>(⟨(wr1 c).toArray⟩:Str)).flatMap fun y=>y.cps.toList)=wr l:=by
     unfold wr
     rw[List.flatMap_map]
    rw[e]
    exact k H' sm
theorem pqP (g:G K mg):FnOk P w K mg base CX0 2 g.hqA g.fqP ["pieces"] (pqU K):=by
 refine g.jq3.ok pqG (fun vs H Q E h=>?_) (fun ae A ac s H vs Q E hr h=>?_)
 ·obtain⟨cs,xs,q,rfl,_⟩:=h;rfl
 ·obtain⟨cs,xs,q,rfl,hq,hx,hn,k⟩:=h
  refine⟨_,(aqe (aql (iqk (fx:=[]) (fr:=[]) rfl rfl (by decide +kernel) rfl (by decide +kernel) rfl (by decide +kernel) rfl .nil rfl (jq0 (K:=K) rfl (pv 0)) (fun _ _ _=>(sqX (bqb (aqf (pqB g) (hr.mono (by decide)) rfl g.nq1 g.kq3.kp g.nqo .nil pass0 (aqa (pv 0) aqb))))) (fun _ _ _=>(aqf (jqN g) (hr.mono (by decide)) rfl g.iqS g.gq7.kp g.jqu .nil pass0 (aqa (pv 0) aqb)))))),?_⟩
  walk_at "rd"
  have hl:=hx.length
  refine⟨⟨_,hq⟩,fun p n=>?_⟩
  refine mqY (fun i=>(cs[i]?.map fun c=>!c.isStep).getD false) (fun i=>(cs[i]?.map fun c=>tV c.name).getD .non) hq (aqq (by lia)) n (fun i x hi H1 R s1 hR=>?_) (fun i x hi ht H1 T s1 hT=>?_) (fun H1 s1 ad=>?_)
  ·obtain⟨c,q,hc,rfl,hv⟩:=hx.get hi
   walk_at "rd"
   have:=hR H1 (Same.refl _)
   rw[hc] at this
   exact⟨c,q,rfl,s1.tup hv,_,rfl,this⟩
  ·obtain⟨c,q,hc,rfl,hv⟩:=hx.get hi
   rw[hc] at ht
   walk_at "rd"
   have:=hT H1 (Same.refl _)
   rw[hc] at this
   exact⟨c,q,rfl,s1.tup hv,by simpa using ht,this⟩
  ·refine k p H1 s1 ?_
   rw[ad,hl,hqd (fun c:Pc=>!c.isStep) (fun c:Pc=>tV c.name) .non cs]
   unfold gapsM
   rw[map_map]
   rfl
theorem rqS (g:G K mg):FnOk P w K mg base CX0 2 g.iq1 g.hqF ["text"] rqF:=by
 refine g.lqA.ok sqg (fun vs H Q E h=>?_) (fun ad A ac s H vs Q E hr h=>?_)
 ·obtain⟨l,rfl,_⟩:=h;rfl
 ·obtain⟨l,rfl,hl,k⟩:=h
  refine⟨_,(aqe (aql (fqu (qqt vqm vqm aqd (aqF (aqO (K:=K) rfl) rfl g.fqn PySem.boot_len (aqa (pv 0) aqb)) (aqx (v:=mqf) rfl g.hqW ⟨_,rfl⟩)) (dqp (aqf (hqD g) (hr.mono (by decide)) rfl g.gq0 g.fqo.kp g.hqj .nil pass0 (aqa (pv 0) (aqa (aqx (v:=gqR) rfl g.gqJ ⟨_,rfl⟩) aqb))))))),?_⟩
  have eF:gqR=.str ⟨smaL.toArray⟩:=by
   show V.str (Str.ofString _)=_
   unfold smaL;simp
  rw[eF]
  walk_at "rd"
  have no:(¬ (1≤l.length∧l.length≤60))->Q (.bl false) H:=fun h=>by
   have:wordB l=false:=by
    unfold wordB
    by_cases h1:1≤l.length
    ·rw[decide_eq_false (show ¬ l.length≤60 from fun z=>h ⟨h1,z⟩)];simp
    ·rw[decide_eq_false h1];simp
   rw[<- this]
   exact k H (Same.refl _)
  refine⟨aqq hl,ite2 (fun h1=>ite2 (fun h2=>?_) (fun h2=>no (by lia))) (fun h1=>no (by lia))⟩
  refine⟨_,_,rfl,hl,fun H' sm=>?_⟩
  have e:wordB l=(l.all fun c=>decide (c∈smaL)):=by
   unfold wordB
   rw[decide_eq_true (show 1≤l.length by lia),decide_eq_true (show l.length≤60 by lia),xq8]
   rfl
  have:=k H' sm
  rw[e] at this
  simpa using this
theorem jqZ (g:G K mg):FnOk P w K mg base CX0 2 g.bq6 g.bqR ["gap","value"] (jqT K):=by
 refine g.dqw.ok jqF (fun vs H Q E h=>?_) (fun ai A ag s H vs Q E hr h=>?_)
 ·obtain⟨c,p,d,v,rfl,_⟩:=h;rfl
 ·obtain⟨c,p,d,v,rfl,hp,hc,hh,ht,hv,hs,ac,k⟩:=h
  refine⟨_,(aqc (aqN (aqj bqk (aqw (aqh (K:=K) rfl) (pv 0) aqd (fun _ _=>rfl)) aqg (nomark _))
    (aqe (aql (pv 1))) aqr)
   (aqc (aqN (aqj bqk (aqw (aqh (K:=K) rfl) (pv 0) aqd (fun _ _=>rfl)) aqg (nomark _))
    (aqe (aql (aqG (aqa (aq8 hqh rfl g.pq0 mq4 (aqa (pv 1) aqb)) aqb)))) aqr)
   (aqe (aql (aqG (aqa (aqi (aqB (K:=K)) (aqi (aqB (K:=K)) (aqf (nqb g) (hr.mono (by decide)) rfl g.lq5 g.jqp.kp g.lqB .nil pass0 (aqa (pv 0) aqb)) (pv 1)) (aqf (mq3 g) (hr.mono (by decide)) rfl g.lqF g.iq2.kp g.lq0 .nil pass0 (aqa (pv 0) aqb))) aqb)))))),?_⟩
  walk_at "rd"
  have b3:300000≤sizeLine:=by decide
  refine⟨_,_,.inr hp,c.at0,aq0.mpr ⟨_,rfl,?_⟩⟩
  rw[nqV]
  refine ite2 (fun ad=>?_) (fun ad=>⟨_,_,.inr hp,c.at0,aq0.mpr ⟨_,rfl,?_⟩⟩)
  ·cases c with
   |rest n=>
    cases hv with
    |lst hl r=>
     rename_i a xs ds
     have e:isValD (.rest n) (.list ds)=(decide (0 < ds.length) && ds.all canD):=rfl
     rw[e,Bool.and_eq_true] at ac
     refine k a H (Same.refl _) ?_
     rw[hl,pqm r ac.2]
     rfl
    |_=>cases ac
   |_=>cases ad
  rw[tq3]
  refine ite2 (fun ae=>?_) (fun ae=>?_)
  ·cases c with
   |num n=>
    cases hv with
    |int i=>
     have e:isValD (.num n) (.int i)=decide (0≤i∧i < 10 ^ 60):=rfl
     rw[e] at ac
     have h60:=of_decide_eq_true ac
     have ah:i.natAbs.log2 < 1920:=by
      by_cases h0:i.natAbs=0
      ·rw[h0];decide
      ·rw[Nat.log2_lt h0]
       have:i.natAbs < 10 ^ 60:=by lia
       exact Nat.lt_of_lt_of_le this (by decide +kernel)
     exact⟨i,rfl,ah,by decide,fun p1 H1 n1 s1 af=>k p1 H1 s1 af⟩
    |_=>cases ac
   |_=>cases ae
  ·have e:isValD c d=(ftx d && !isDot (c.head++txD d++c.tail))∨c.isWord=true:=by
    cases c with
    |part a b e=>exact .inl rfl
    |gap n=>exact .inl (show (ftx d && !isDot (txD d))=(ftx d && !isDot ([]++txD d++[])) by rw[nil_append,append_nil])
    |step s=>cases hc
    |num n=>exact absurd rfl ae
    |word n=>exact .inr rfl
    |rest n=>exact absurd rfl ad
   have e2:stpsD c d=[c.head++txD d++c.tail]:=by
    cases c with
    |step s=>cases hc
    |num n=>exact absurd rfl ae
    |rest n=>exact absurd rfl ad
    |_=>rfl
   cases hv with
   |str x=>
    obtain⟨⟨l⟩⟩:=x
    have hl:l.length≤100000:=fqx hs
    refine⟨c,p,rfl,hp,dqA.mpr ⟨Nat.le_trans (show c.head.length+l.length≤300000 by lia) b3,c,p,rfl,hp,dqA.mpr ⟨?_,by decide,fun p1 H1 n1 s1 af=>k p1 H1 s1 ?_⟩⟩⟩
    ·show ((⟨c.head.toArray⟩:Str)++⟨l.toArray⟩).length+c.tail.length≤_
     rw[dqq,aqT,length_append]
     lia
    ·rw[af,e2]
     show some (HO.lst [V.str ((⟨c.head.toArray⟩:Str)++⟨l.toArray⟩++⟨c.tail.toArray⟩)])=_
     rw[dqq,dqq]
     rfl
   |_=>
    rcases e with e|e
    ·rw[e] at ac;cases ac
    ·cases c with
     |word n=>cases ac
     |_=>cases e
theorem dqh (g:G K mg):FnOk P w K mg base CX0 2 g.dqM g.cq1 ["self","signs"] (mqi K g.aqt):=by
 refine g.iq9.ok mqv (fun vs H Q E h=>?_) (fun ae A ad s H vs Q E hr h=>?_)
 ·obtain⟨p,t,sg,i,rfl,_⟩:=h;rfl
 ·obtain⟨p,t,sg,i,rfl,⟨dx,hp⟩,hi,hl,k⟩:=h
  refine⟨_,(aqe (aql (fqu (rqg (fq6 (pv 0) g.aqo g.dqt (gqs g) (hr.mono (by decide)) g.eqr .nil pass0)) (dqp (aq5 oqk (aqw (aqh (K:=K) rfl) (dqG (pv 0) rfl) (dqG (pv 0) rfl) (fun _ _=>rfl)) (pv 1) (by with_unfolding_all rfl)))))),?_⟩
  have ac:Cur H g.aqt p t i:=⟨dx,hp⟩
  walk_at "rd"
  refine aqu ac ⟨p,t,i,rfl,ac,hl,_,rfl,?_⟩
  by_cases he:i=t.length
  ·rw[decide_eq_true he,if_neg (by decide)]
   rw[hqy (by rw[he];exact List.getElem?_eq_none (Nat.le_refl _))] at k
   exact k
  rw[decide_eq_false he,if_pos rfl]
  refine gqa ac g.aqo g.aqW (cqp ac g.aqo g.aqD ?_)
  have hc:t[i]?=some t[i]:=List.getElem?_eq_getElem (by lia)
  walk_at "rd"
  refine⟨t[i],aqq hl,aqs hc,?_⟩
  rw[bqi hc] at k
  exact k
theorem dqn (g:G K mg):FnOk P w K mg base CX0 2 g.fq2 g.fqb ["_law_cell"] (oqP K):=by
 refine g.cql.ok dqo (fun vs H Q E h=>?_) (fun am A ad s H vs Q E hr h=>?_)
 ·obtain⟨c,rfl,_⟩:=h;rfl
 ·obtain⟨c,rfl,k⟩:=h
  refine⟨_,(aqc (aqk (i:=1) dqo.nd rfl (Or.inl rfl) (aqw (aqh (K:=K) rfl) (aqG (aqa aqg (aqa aqg (aqa aqg (aqa aqg (aqa (vqX (nqB g) (hr.mono (by decide)) rfl g.kqc g.hqe.kp g.kqq .nil pass0) (aqa aqg aqb))))))) (aqi aqJ (pv 0) aqd) (fun _ _=>rfl)))
   (aqc (aqk (i:=2) dqo.nd rfl (Or.inl rfl) aqg)
   (aqc (gq1 PassesOwn.never rfl (fqk rfl g.iqr (aqa (aqi aqJ (aqi aqz (pv 0) aqd) aqd) aqb)) (aqX (i:=3) dqo.nd rfl (Or.inl rfl))
   (aqe (aqk (i:=2) dqo.nd rfl (Or.inl rfl) (aqi (aqB (K:=K)) (pv 2) (aqw (aqh (K:=K) rfl) (pv 1) (aqi aqJ (aqi aqz (pv 0) (aqi (aqB (K:=K)) aqd (aqi eqj (aqi eqj aqd (pv 3)) (pv 3)))) (aqF (aqO (K:=K) rfl) rfl g.fqn PySem.boot_len (aqa (pv 1) aqb))) (fun _ _=>rfl))))))
   (aqe (aql (pv 2)))))),?_⟩
  walk_at "rd"
  refine⟨by decide,fun p H1 n1 s1 e1=>⟨by decide,?_⟩⟩
  obtain⟨v,hv,aj⟩:=xqQ [V.str (Str.ofString "ab"),V.str (Str.ofString "a1"),V.str (Str.ofString "0123456789"),V.str (Str.ofString "a."),V.str {cps:=SG.toArray},V.str (Str.ofString "./{}~ab")] c 6 (by decide) (by decide)
  have ac:∃l:List Nat,v=tV l∧0 < l.length∧l.length≤94∧∀c∈l,isSg c=true:=by
   simp only[mem_cons,not_mem_nil,or_false] at hv
   rcases hv with rfl|rfl|rfl|rfl|rfl|rfl
   ·exact⟨[97,98],congrArg V.str (by decide +kernel),by decide,by decide,by decide⟩
   ·exact⟨[97,49],congrArg V.str (by decide +kernel),by decide,by decide,by decide⟩
   ·exact⟨[48,49,50,51,52,53,54,55,56,57],congrArg V.str (by decide +kernel),by decide,by decide,by decide⟩
   ·exact⟨[97,46],congrArg V.str (by decide +kernel),by decide,by decide,by decide⟩
   ·exact⟨SG,rfl,by rw[wqE];decide,by rw[wqE];decide,fun c hc=>wqg.mp hc⟩
   ·exact⟨[46,47,123,125,126,97,98],congrArg V.str (by decide +kernel),by decide,by decide,by decide⟩
  obtain⟨pl,rfl,al,ag,af⟩:=ac
  refine⟨_,_,.inl (.of e1),aj,⟨by decide,by decide⟩,by decide,by lia,by lia,?_⟩
  refine fqm (fun j σ H2=>H2=H1∧∃(w:List Nat) (v3:Option V),σ=[some (.int c),some (tV pl),some (tV w),v3]∧w.length=j∧∀c∈w,isSg c=true) ⟨rfl,[],none,rfl,rfl,by simp⟩ ?_ ?_
  ·rintro j σ H2 hj ⟨rfl,w,v3,rfl,ae,hw⟩
   have ah:j=0∨j=1∨j=2∨j=3∨j=4:=by lia
   have hb:0 < 30+17 * (0+(j:Int)) * (0+(j:Int))∧30+17 * (0+(j:Int)) * (0+(j:Int)) < 1073741824:=by
    rcases ah with rfl|rfl|rfl|rfl|rfl <;> decide
   obtain⟨d,hd,ai⟩:=nqR pl (c / (30+17 * (0+(j:Int)) * (0+(j:Int)))) (pl.length:Int) (by lia) (by lia)
   walk_at "rd"
   refine⟨.inl ⟨by decide,by decide⟩,.inr ⟨by lia,by lia⟩,hb,aqq (by lia),by lia,d,aqq (by lia),ai,aqq (by lia),w++[d],_,⟨by simp,rfl⟩,by rw[length_append,length_singleton,ae],fun e he=>?_⟩
   rcases mem_append.mp he with z|z
   ·exact hw e z
   ·rw[mem_singleton.mp z];exact af d hd
  ·rintro σ H2 ⟨rfl,w,v3,rfl,ae,hw⟩
   walk_at "rd"
   exact k w H2 (by lia) hw s1
theorem oq9 (g:G K mg):FnOk P w K mg base CX0 3 g.fqC g.eqZ ["thing"] pql:=by
 refine g.iqo.ok pqp (fun vs H Q E h=>?_) (fun ae A ac s H vs Q E hr h=>?_)
 ·obtain⟨d,v,rfl,_⟩:=h;rfl
 ·obtain⟨d,v,rfl,hv,hs,k⟩:=h
  refine⟨_,(aqc (aqN (PW.pt (kqO (dqm (bqb (aqf (mq8 g) (hr.mono (by decide)) rfl g.lqI g.iqJ.kp g.lqv .nil pass0 (aqa (pv 0) aqb)))) (iqV (aqj oqb (aqF (aqO (K:=K) rfl) rfl g.fqn PySem.boot_len (aqa (pv 0) aqb)) (aqx (v:=kqR) rfl g.gqy ⟨_,rfl⟩) (nomark _)))))
    (aqe (aql kqJ)) aqr)
   (aqe (aql (fqu (aqf (hqD g) (hr.mono (by decide)) rfl g.gq0 g.fqo.kp g.hqj .nil pass0 (aqa (cq4 (tqJ (K:=K) rfl) (pv 0) iqh (cqR aqd)) (aqa (aqx (v:=uqj) rfl g.oqG ⟨_,rfl⟩) aqb))) (dqp (aqf (hqD g) (hr.mono (by decide)) rfl g.gq0 g.fqo.kp g.hqj .nil pass0 (aqa (pv 0) (aqa (aqx (v:=gqz) rfl g.dqs ⟨_,rfl⟩) aqb)))))))),?_⟩
  walk_at "rd"
  refine⟨d,v,rfl,hv,hs,fun H1 s1=>?_⟩
  walk_at "rd"
  have k1:=k H1 s1
  cases hv with
  |str x=>
   have hx:=fqx hs
   refine ite2 (fun h=>?_) (fun h=>?_)
   ·rw[show schD (.str x)=false by simp only[schD];rw[show x.cps.toList.all isSg=false from h];rfl] at k1
    exact k1
   have h:x.cps.toList.all isSg=true:=(Bool.not_eq_false _).mp h
   walk_at "rd"
   refine⟨aqq hx,ite2 (fun h2=>?_) (fun h2=>?_)⟩
   ·rw[show schD (.str x)=false by simp only[schD,h,Bool.true_and];rw[decide_eq_false (by lia)];rfl] at k1
    exact k1
   have e:x=⟨x.cps.toList.toArray⟩:=by simp
   refine⟨aqq hx,?_⟩
   have e1:Txt.slice x none (some 1)=⟨(x.cps.toList.take 1).toArray⟩:=by
    conv=>lhs;rw[e]
    exact vqY x.cps.toList 1
   rw[e1]
   refine⟨⟨(x.cps.toList.take 1).toArray⟩,_,rfl,by rw[aqT,length_take];lia,fun H2 s2=>?_⟩
   have ad:=all_eq_true.mp h
   have f1:((⟨(x.cps.toList.take 1).toArray⟩:Str).cps.toList.all fun c=>decide (c∈(Str.ofString "abcdefghijklmnopqrstuvwxyzABCDEFGHIJKLMNOPQRSTUVWXYZ").cps.toList))=(x.cps.toList.take 1).all isLet:=by
    rw[uqb,Bool.eq_iff_iff,all_eq_true,all_eq_true]
    refine forall_congr' fun c=>forall_congr' fun hc=>?_
    rw[Aqu c (by have:=fqV (ad c (mem_of_mem_take hc));lia)]
   have f2:(x.cps.toList.all fun c=>decide (c∈(Str.ofString "abcdefghijklmnopqrstuvwxyzABCDEFGHIJKLMNOPQRSTUVWXYZ0123456789").cps.toList))=x.cps.toList.all isAln:=by
    rw[Bool.eq_iff_iff,all_eq_true,all_eq_true]
    refine forall_congr' fun c=>forall_congr' fun hc=>?_
    rw[yq8 c (by have:=fqV (ad c hc);lia)]
   rw[f1]
   walk_at "rd"
   refine ite2 (fun h3=>?_) (fun h3=>?_)
   ·refine⟨x,_,rfl,hx,fun H3 s3=>?_⟩
    have k3:=k H3 (s1.trans (s2.trans s3))
    rw[f2]
    simp only[schD,h,h3,Bool.true_and,decide_eq_true (show x.length≤8 by lia)] at k3
    exact k3
   ·have k3:=k H2 (s1.trans s2)
    simp only[schD,h,(Bool.not_eq_true _).mp h3,Bool.false_and,Bool.and_false,Bool.true_and] at k3
    exact k3
  |_=>exact k1
theorem fqt (g:G K mg):FnOk P w K mg base CX0 3 g.cqg g.bqL ["thing"] jqX:=by
 refine g.cqi.ok jq7 (fun vs H Q E h=>?_) (fun ad A ac s H vs Q E hr h=>?_)
 ·obtain⟨d,v,rfl,_⟩:=h;rfl
 ·obtain⟨d,v,rfl,hv,hs,k⟩:=h
  refine⟨_,(aqe (aql (fqu (aqf (mq8 g) (hr.mono (by decide)) rfl g.lqI g.iqJ.kp g.lqv .nil pass0 (aqa (pv 0) aqb)) (dqp (aq5 oqb (aqF (aqO (K:=K) rfl) rfl g.fqn PySem.boot_len (aqa (pv 0) aqb)) aqd (nomark _)))))),?_⟩
  walk_at "rd"
  refine⟨d,v,rfl,hv,hs,fun H1 s1=>?_⟩
  walk_at "rd"
  have k1:=k H1 s1
  cases hv with
  |str x=>
   refine ite2 (fun h=>?_) (fun h=>?_)
   ·walk_at "rd"
    refine⟨aqq (fqx hs),?_⟩
    have e:ftx (.str x)=decide ((0:Int) < (x.length:Int)):=by
     simp only[ftx]
     rw[show x.cps.toList.all isSg=true from h,Bool.true_and]
     exact decide_eq_decide.mpr (by lia)
    rw[e] at k1
    exact k1
   ·rw[show ftx (.str x)=false by simp only[ftx];rw[show x.cps.toList.all isSg=false from (Bool.not_eq_true _).mp h,Bool.false_and]] at k1
    exact k1
  |_=>exact k1
theorem mqw (g:G K mg):FnOk P w K mg base CX0 3 g.dqT g.dqk ["house","door"] mqy:=by
 refine g.fqY.ok iqc (fun vs H Q E h=>?_) (fun ag A ac s H vs Q E hr h=>?_)
 ·obtain⟨o,d,rfl,_⟩:=h;rfl
 ·obtain⟨o,d,rfl,ho,hd,k⟩:=h
  refine⟨_,(aqc (aqN (aqj eqy (pv 0) aqM (nomark _))
    (aqe (aql aqg)) aqr)
   (aqE (aqk (i:=2) iqc.nd rfl (Or.inl rfl) (bqd (aqj eqy (pv 1) aqM (nomark _)) aqg (aqi (aqR (K:=K) rfl) aqg (aq8 hqh rfl g.pq0 mq4 (aqa (pv 1) aqb)))))
   (aqe (aql (aqi (aqR (K:=K) rfl) (aqi (aqR (K:=K) rfl) aqg (aqf (eqc g) (hr.mono (by decide)) rfl g.eqm g.dql.kp g.eqx .nil pass0 (aqa (pv 0) aqb))) (pv 2)))))),?_⟩
  have c1:Str.ofString ":"=⟨[58].toArray⟩:=by decide +kernel
  have c2:Str.ofString "//"=⟨[47,47].toArray⟩:=by decide +kernel
  rw[c1,c2]
  walk_at "rd"
  cases o with
  |none=>
   cases d with
   |some i=>exact absurd rfl (hd i rfl).2
   |none=>
    refine ite2 (fun _=>?_) (fun z=>absurd rfl z)
    exact k H (Same.refl _)
  |some l=>
   refine ite2 (fun z=>absurd z (by simp[otV])) (fun _=>?_)
   have hl:=ho l rfl
   have w:=kqu l
   refine⟨fun σ H'=>H'=H∧σ=[some (otV (some l)),some (itV d),some (.str ⟨(dooT d).toArray⟩)]∧(dooT d).length≤6,?_,?_⟩
   ·cases d with
    |none=>exact ite2 (fun _=>⟨rfl,rfl,by decide⟩) (fun z=>absurd rfl z)
    |some i=>
     have hi:=(hd i rfl).1
     have af:=wqk hi.1 hi.2
     refine ite2 (fun z=>absurd z (by simp[itV])) (fun _=>?_)
     refine⟨i,rfl,lg hi.1 hi.2,aqq (by rw[wql,aqT];lia),rfl,?_,?_⟩
     ·rw[wql,show (⟨#[58]⟩:Str)=⟨[58].toArray⟩ from rfl,dqq]
      simp[dooT]
     ·simp only[dooT,length_cons];lia
   ·rintro σ H' ⟨rfl,rfl,af⟩
    walk_at "rd"
    show fqp [.str ⟨l.toArray⟩] H' _ _
    walk_at "rd"
    refine⟨by lia,hl.2,fun ae ad=>?_⟩
    refine⟨aqq (by lia),aqq (by lia),?_⟩
    have:=k ae ad
    simpa [houT] using this
theorem pqA (g:G K mg):FnOk P w K mg base CX0 3 g.fqD g.eq7 ["way"] (pqs K):=by
 refine g.iqn.ok oqW (fun vs H Q E h=>?_) (fun ah A ac s H vs Q E hr h=>?_)
 ·obtain⟨r,e,ss,p,q,rfl,_⟩:=h;rfl
 ·obtain⟨r,e,ss,p,q,rfl,hp,hq,hs,hn,hl,k⟩:=h
  refine⟨_,(aqe (aql (aqf (rqE g) (hr.mono (by decide)) rfl g.oqN g.lqf.kp g.pqi .nil pass0 (aqa (aqw (aqh (K:=K) rfl) (pv 0) (aqx (v:=vqi) rfl g.rqn ⟨_,rfl⟩) (fun _ _=>rfl)) (aqa (iqk (fx:=[]) (fr:=[]) rfl rfl (by decide +kernel) rfl (by decide +kernel) rfl (by decide +kernel) rfl .nil rfl (jq0 (K:=K) rfl (aqw (aqh (K:=K) rfl) (pv 0) (aqx (v:=xqP) rfl g.tql ⟨_,rfl⟩) (fun _ _=>rfl))) (fun _ _ _=>mqJ) (fun _ _ _=>(aqf (eqc g) (hr.mono (by decide)) rfl g.eqm g.dql.kp g.eqx .nil pass0 (aqa (pv 0) aqb)))) (aqa (aqw (aqh (K:=K) rfl) (pv 0) (aqx (v:=zq4) rfl g.wqm ⟨_,rfl⟩) (fun _ _=>rfl)) aqb)))))),?_⟩
  walk_at "rd"
  refine⟨_,_,.inr hp,rfl,?_⟩
  refine⟨_,_,.inr hp,rfl,q,rfl,⟨_,hq⟩,fun p1 ag=>?_⟩
  refine sqv (zs:=(ss.map wr).map fun l=>V.str ⟨l.toArray⟩) hq (by rw[length_map];exact aqq (by lia)) ag (by simp) (fun i x z hx hz H' T sm hT=>?_) (fun H' sm af=>?_)
  ·rw[List.getElem?_map] at hx hz
   rw[List.getElem?_map] at hz
   obtain⟨s,ad,rfl⟩:=Option.map_eq_some_iff.mp hx
   rw[ad] at hz
   simp only[Option.map_some,Option.some.injEq] at hz
   subst hz
   have ae:=hs s (mem_of_getElem? ad)
   walk_at "rd"
   exact⟨ae.1,ae.2,hT⟩
  ·refine⟨_,_,.inr (sm.tup hp),rfl,?_⟩
   have hw:(joinT 47 (ss.map wr)).length≤90000:=by
    have:=hl
    unfold wayT at this
    simp only[length_append] at this
    lia
   refine⟨r,e,p1,ss.map wr,rfl,.of af,hw,?_⟩
   rw[<- xqe]
   exact k H' sm
theorem mqu (g:G K mg):FnOk P w K mg base CX0 3 g.dq4 g.cq0 ["name","value"] mqx:=by
 refine g.fqH.ok mqp (fun vs H Q E h=>?_) (fun ag A ac s H vs Q E hr h=>?_)
 ·obtain⟨n,o,rfl,_⟩:=h;rfl
 ·obtain⟨n,o,rfl,hk,hn,ho,k⟩:=h
  refine⟨_,(aqe (aql (bqd (aqj eqy (pv 1) aqM (nomark _)) (aqf (eqc g) (hr.mono (by decide)) rfl g.eqm g.dql.kp g.eqx .nil pass0 (aqa (pv 0) aqb)) (aqi (aqR (K:=K) rfl) (aqi (aqR (K:=K) rfl) (aqf (eqc g) (hr.mono (by decide)) rfl g.eqm g.dql.kp g.eqx .nil pass0 (aqa (pv 0) aqb)) aqg) (aqf (eqc g) (hr.mono (by decide)) rfl g.eqm g.dql.kp g.eqx .nil pass0 (aqa (pv 1) aqb)))))),?_⟩
  have c1:Str.ofString "="=⟨[61].toArray⟩:=by decide +kernel
  rw[c1]
  have w1:=kqu n
  walk_at "rd"
  cases o with
  |none=>
   refine ite2 (fun _=>?_) (fun z=>absurd rfl z)
   refine⟨hn,hk.1.2,fun H' s'=>?_⟩
   rw[show pairT (n,none)=wr n by simp[pairT,oT]] at k
   exact k H' s'
  |some l=>
   refine ite2 (fun z=>absurd z (by simp[otV])) (fun _=>?_)
   have af:=ho l rfl
   have w2:=kqu l
   rw[show pairT (n,some l)=wr n++[61]++wr l by simp[pairT,oT]] at k
   refine⟨hn,hk.1.2,fun H' s'=>?_⟩
   refine⟨aqq (by simp;lia),?_⟩
   show fqp [.str ⟨l.toArray⟩] H' _ _
   walk_at "rd"
   refine⟨af,hk.2 l rfl,fun ae ad=>⟨aqq (by simp;lia),k ae (s'.trans ad)⟩⟩
theorem nqi (g:G K mg):FnOk P w K mg base CX0 3 g.eqH g.dq2 ["mark"] nqW:=by
 refine g.hqf.ok nq6 (fun vs H Q E h=>?_) (fun ad A ac s H vs Q E hr h=>?_)
 ·obtain⟨o,rfl,_⟩:=h;rfl
 ·obtain⟨o,rfl,ho,k⟩:=h
  refine⟨_,(aqe (aql (bqd (aqj eqy (pv 0) aqM (nomark _)) aqg (aqi (aqR (K:=K) rfl) aqg (aqf (eqc g) (hr.mono (by decide)) rfl g.eqm g.dql.kp g.eqx .nil pass0 (aqa (pv 0) aqb)))))),?_⟩
  have c1:Str.ofString "#"=⟨[35].toArray⟩:=by decide +kernel
  rw[c1]
  walk_at "rd"
  cases o with
  |none=>exact ite2 (fun _=>k H (Same.refl _)) (fun z=>absurd rfl z)
  |some l=>
   refine ite2 (fun z=>absurd z (by simp[otV])) (fun _=>?_)
   have hl:=ho l rfl
   have w:=kqu l
   show fqp [.str ⟨l.toArray⟩] H _ _
   rw[show (⟨#[35]⟩:Str)=⟨[35].toArray⟩ from rfl]
   walk_at "rd"
   refine⟨hl.1,hl.2,fun H' s'=>⟨aqq (by lia),?_⟩⟩
   exact k H' s'
theorem jqV (g:G K mg):FnOk P w K mg base (CXN P w base) 3 g.cqt g.bq7 ["pattern","values"] (jqL K g.aqK):=by
 refine g.eqi.okn cqk (fun vs H Q E h=>?_) (fun al A ad s H vs Q E hr h=>?_)
 ·obtain⟨cs,xs,p,q,pz,cl,ws,ys,rfl,_⟩:=h;rfl
 ·obtain⟨cs,xs,p,q,pz,cl,ws,ys,rfl,hp,hq,hx,hn,af,hw,aj,kQ,kE⟩:=h
  refine⟨_,(aqc (aqk (i:=2) cqk.nd rfl (Or.inl rfl) (aqf (pqP g) (hr.mono (by decide)) rfl g.mqQ g.jq3.kp g.mqI .nil pass0 (aqa (aqw (aqh (K:=K) rfl) (pv 0) (aqx (v:=rqj) rfl g.nqL ⟨_,rfl⟩) (fun _ _=>rfl)) aqb)))
   (aqe (gq1 PassesOwn.leaving rfl (kq4 (K:=K) rfl (pv 1)) (iql (n:=2) (K:=K) rfl rfl (bqe (aqX (i:=3) cqk.nd rfl (Or.inl rfl)) (bqe (aqX (i:=4) cqk.nd rfl (Or.inl rfl)) gqU)))
   (aqe (aqN (aqj (sqI (K:=K) rfl) (pv 3) (pv 2) (by with_unfolding_all rfl))
    (aqe (oq7 mqG rfl g.jqq g.lqC (eqw g) (hr.mono (by decide)) g.cqB rfl pass0 rfl (aqa (pv 3) aqb))) aqr))))),?_⟩
  walk_at "rd"
  refine⟨_,_,.inr hp,rfl,cs,xs,q,rfl,hq,hx,by lia,fun p1 H1 s1 ai=>⟨⟨_,.of (s1 _ _ af)⟩,?_⟩⟩
  have hgl:=nqT cs
  refine pqq (xs:=ys) (fun i σ H'=>Same H1 H'∧(∀w∈ws.take i,w.1∈gapsM cs)∧∃v3 v4,σ=[some (.ref p),some (.ref pz),some (.ref p1),v3,v4]) ⟨Same.refl _,(fun w hw=>by rw[take_zero] at hw;cases hw),none,none,rfl⟩ (fun i σ H' _ h=>.of ((s1.trans h.1) _ _ af)) ?_ ?_
  ·rintro i x σ H2 ah ⟨s2,ac,v3,v4,rfl⟩
   obtain⟨n,d,b,v,h1,rfl,h3,h4⟩:=hw.get ah
   have ag:=s1.trans s2
   walk_at "rd"
   refine⟨b,_,rfl,.of (ag _ _ h3),rfl,_,_,rfl,_,_,rfl,rfl,p1,_,rfl,.inl (.of (s2 _ _ ai)),rfl,?_,_,rfl,?_⟩
   ·exact all_eq_true.mpr fun y hy=>by obtain⟨z,_,rfl⟩:=mem_map.mp hy;rfl
   have e:inV (tV n) ((gapsM cs).map tV)=decide (n∈gapsM cs):=xqU n (gapsM cs)
   rw[e]
   by_cases hg:n∈gapsM cs
   ·rw[decide_eq_true hg]
    refine ite2 (fun z=>absurd z (by decide)) (fun _=>⟨s2,fun w ae=>?_,_,_,rfl,rfl⟩)
    rw[take_add_one,h1] at ae
    rcases mem_append.mp ae with z|z
    ·exact ac w z
    ·have:w=(n,d):=by simpa using z
     rw[this];exact hg
   ·rw[decide_eq_false hg]
    refine ite2 (fun _=>?_) (fun z=>absurd rfl z)
    exact mq7 fun dd H3 s3 hd=>kE n (qq1 h1 ac hg) dd H3 (ag.trans s3) hd
  ·rintro σ H2 ⟨s2,ac,v3,v4,rfl⟩
   rw[hw.length,take_length] at ac
   exact kQ (mqN ac) H2 (s1.trans s2)
theorem oqa (g:G K mg):FnOk P w K mg base CX0 3 g.eqY g.dqQ ["cursor"] (nqx K g.aqt):=by
 refine g.hqk.ok fq5 (fun vs H Q E h=>?_) (fun bg A ai s H vs Q E hr h=>?_)
 ·obtain⟨p,t,w,r,i,o,rfl,_⟩:=h;rfl
 ·obtain⟨p,t,w',r,i,o,rfl,ac,hi,hl,ax,hd,hw,aq,hh,k⟩:=h
  refine⟨_,(aqc (aqN (dqm (bqb (cqz (pv 0) g.aqo g.aqC (aqI g) (hr.mono (by decide)) g.aqH .nil pass0 (aqa aqg aqb))))
    (aqe (aql aqM)) aqr)
   (aqc (aqN (dqm (bqb (cqz (pv 0) g.aqo g.bq2 (dqh g) (hr.mono (by decide)) g.cqK .nil pass0 (aqa (aqx (v:=lqs) rfl g.lqY ⟨_,rfl⟩) aqb))))
    (aqe hqv) aqr)
   (aqc (aqk (i:=1) fq5.nd rfl (Or.inl rfl) (aq8 oqs rfl g.vqV sqQ (aqa (fq6 (pv 0) g.aqo g.bqv (bqY g) (hr.mono (by decide)) g.bqN .nil pass0) aqb)))
   (aqc (kqV PassesOwn.never (PW.pt (gqu (aqj oqb (pv 1) aqd (nomark _)) (gqu (bqb (cqz (pv 0) g.aqo g.bq2 (dqh g) (hr.mono (by decide)) g.cqK .nil pass0 (aqa (aqx (v:=lqs) rfl g.lqY ⟨_,rfl⟩) aqb))) (eqp (aqj vqm (aqf (kqC g) (hr.mono (by decide)) rfl g.iqw g.fqL.kp g.iqp .nil pass0 (aqa (pv 1) (aqa (pv 0) aqb))) (aqx (v:=pq2) rfl g.lqR ⟨_,rfl⟩) (nomark _))))))
   (aqc (aqk (i:=1) fq5.nd rfl (Or.inl rfl) (aqf (kqC g) (hr.mono (by decide)) rfl g.iqw g.fqL.kp g.iqp .nil pass0 (aqa (pv 1) (aqa (pv 0) aqb))))
   (aqe (cqo (fq6 (pv 0) g.aqo g.bqv (bqY g) (hr.mono (by decide)) g.bqN .nil pass0)))))
   (aqe (aql (pv 1))))))),?_⟩
  have eF:lqs=.str ⟨fgS.toArray⟩:=by
   show V.str (Str.ofString _)=_
   unfold fgS;simp
  have e1:Str.ofString ":"=⟨[58].toArray⟩:=by decide +kernel
  rw[eF,e1]
  walk_at "rd"
  cases o with
  |none=>
   have hw:w'=[]:=hw
   subst hw
   refine aqu ac (fq1 ac hi hl hd (hh rfl) ⟨_,rfl,?_⟩)
   rw[if_pos rfl]
   exact k H (SameBut.refl _ _) ac
  |some n=>
   obtain⟨ds,rfl,ar,al,rfl,be,hz⟩:=hw
   refine aqu ac (cqO (w:=[58]) (r:=ds++r) ac hi hl hd fun H1 s1 c1 aj ah=>⟨_,rfl,?_⟩)
   rw[if_neg (by decide)]
   cases ds with
   |nil=>exact absurd rfl ar
   |cons d0 ds0=>
   have aw:=al d0 (mem_cons_self ..)
   obtain⟨hx,az⟩:=jq6 ah
   refine aqu c1 ⟨p,t,fgS,_,rfl,c1,aj,hl,_,rfl,?_⟩
   rw[bqi hx,decide_eq_true (tqE.mpr aw),if_neg (by decide)]
   refine aqu c1 ⟨p,t,_,d0,rfl,c1,hx,hl,fun H2 s2 c2=>⟨_,_,rfl,by show 1≤640;decide,uqs d0 (by lia) aw.1,?_⟩⟩
   have bf:=s1.trans s2
   have ay:valD [d0]=d0 - 48:=by unfold valD;simp
   rw[<- ay]
   refine nq4 (fun m σ H'=>∃(dn es:List Nat),m=es.length∧σ=[some (.ref p),some (.int (valD dn:Nat))]∧dn≠[]∧d0::ds0=dn++es∧SameBut p H H'∧Cur H' g.aqt p t (i+1+dn.length)) ds0.length ⟨[d0],ds0,rfl,rfl,by simp,rfl,bf,c2⟩ ?_
   rintro m σ H3 ⟨dn,es,rfl,rfl,am,ad,s3,c3⟩
   have ao:t.drop (i+1+dn.length)=es++r:=by
    rw[<- drop_drop,show i+1=i+[58].length from rfl,ah,ad,append_assoc,drop_left]
   have av:i+1+dn.length≤t.length:=by
    have:=congrArg List.length ah
    rw[length_drop,ad,length_append,length_append] at this
    simp only[length_singleton] at this aj
    lia
   have bc:valD dn≤65535:=by
    have:=nqK es dn
    rw[<- ad] at this
    lia
   have af:es=[]->Q (.int (valD dn:Nat)) H3:=fun e=>by
    subst e
    rw[append_nil] at ad
    rw[ad] at k
    refine k H3 s3 ?_
    rw[show i+(58::dn).length=i+1+dn.length by simp only[length_cons];lia]
    exact c3
   walk_at "rd"
   have ae:valD dn=0->es=[]:=fun e=>by
    rcases hz with z|z
    ·rw[z] at ad
     have:=congrArg List.length ad
     have h1:0 < dn.length:=length_pos_iff.mpr am
     rw[length_append] at this
     simp only[length_singleton] at this
     exact length_eq_zero_iff.mp (by lia)
    ·cases dn with
     |nil=>exact absurd rfl am
     |cons a b=>
      have e0:d0=a:=by injection ad
      subst e0
      have h9:d0≠48:=fun z'=>z (by rw[z'];rfl)
      have:=qqN (ds:=d0::b) rfl (by lia)
      lia
   by_cases h0:valD dn=0
   ·rw[if_neg (by lia)]
    exact af (ae h0)
   rw[if_pos (by lia)]
   refine aqu c3 ⟨p,t,fgS,_,rfl,c3,av,hl,_,rfl,?_⟩
   cases es with
   |nil=>
    have hb:seesB t fgS (i+1+dn.length)=false:=by
     cases hc:t[i+1+dn.length]? with
     |none=>exact hqy hc
     |some c=>
      rw[bqi hc]
      refine decide_eq_false fun au=>aq c ?_ (tqE.mp au)
      rw[<- hc,<- List.head?_drop,ao]
      rfl
    rw[hb,if_neg (by decide)]
    exact af rfl
   |cons c es1=>
    have hc:=al c (by rw[ad];simp)
    obtain⟨ag,ap⟩:=jq6 ao
    have bd:valD dn * 10+(c - 48)≤65535:=by
     have:=nqK es1 (dn++[c])
     rw[eqA,append_assoc,show [c]++es1=c::es1 from rfl,<- ad] at this
     lia
    rw[bqi ag,decide_eq_true (tqE.mpr hc),if_pos rfl]
    refine⟨p,t,_,c,valD dn,rfl,c3,hl,ag,hc.1,hc.2,by lia,_,_,rfl,rfl,_,rfl,?_⟩
    rw[decide_eq_true (by lia),if_pos rfl]
    refine⟨_,fun _ _ h=>h,p,t,_,c,valD dn,rfl,c3,hl,ag,hc.1,hc.2,by lia,aqu c3 ⟨p,t,_,c,rfl,c3,ag,hl,fun H4 s4 c4=>⟨es1.length,Nat.lt_succ_self _,dn++[c],es1,rfl,by rw[eqA],by simp,by rw[ad,append_assoc];rfl,s3.trans s4,?_⟩⟩⟩
    rw[length_append]
    exact c4
theorem nqO (g:G K mg):FnOk P w K mg base CX0 3 g.fqd g.dq1 ["cursor"] (nqS K g.aqt):=by
 refine g.gqD.ok fqQ (fun vs H Q E h=>?_) (fun aj A ad s H vs Q E hr h=>?_)
 ·obtain⟨p,t,r,i,a,b,c,rfl,_⟩:=h;rfl
 ·obtain⟨p,t,r,i,a,b,c,rfl,ac,hd,hs,hl,k⟩:=h
  refine⟨_,(aqc (aqN (dqm (bqb (cqz (pv 0) g.aqo g.bq2 (dqh g) (hr.mono (by decide)) g.cqK .nil pass0 (aqa (aqx (v:=gq8) rfl g.gqA ⟨_,rfl⟩) aqb))))
    (aqe hqv) aqr)
   (aqc (aqk (i:=1) fqQ.nd rfl (Or.inl rfl) (aqi (aqR (K:=K) rfl) (fq6 (pv 0) g.aqo g.bqv (bqY g) (hr.mono (by decide)) g.bqN .nil pass0) (cq4 (tqJ (K:=K) rfl) (dqG (pv 0) rfl) (cqR (dqG (pv 0) rfl)) (cqR (aqi (aqR (K:=K) rfl) (dqG (pv 0) rfl) aqd)))))
   (aqc (aqk (i:=2) fqQ.nd rfl (Or.inl rfl) (aqf (rqL g) (hr.mono (by decide)) rfl g.oq8 g.lqk.kp g.pqn .nil pass0 (aqa (pv 1) aqb)))
   (aqc (aqN (aqj eqy (pv 2) aqM (nomark _))
    (aqe hqv) aqr)
   (aqc (cqo (fq6 (pv 0) g.aqo g.bqv (bqY g) (hr.mono (by decide)) g.bqN .nil pass0))
   (aqe (aql (pv 2)))))))),?_⟩
  obtain⟨hf,ha,hb,ai⟩:=sqM hs
  have ag:i+2≤t.length:=by have:=congrArg List.length hd;rw[length_drop] at this;simp only[length_cons] at this;lia
  have ae:t[i]?=some a:=by rw[<- List.head?_drop,hd];rfl
  have ah:t[i+1]?=some b:=by rw[<- List.head?_drop,<- drop_drop,hd];rfl
  have eF:gq8=.str ⟨[50,51,52,53,54,55].toArray⟩:=by
   show V.str (Str.ofString "234567")=_
   rw[show Str.ofString "234567"=⟨[50,51,52,53,54,55].toArray⟩ by decide +kernel]
  have hf:a∈[50,51,52,53,54,55]:=by
   rw[show (Str.ofString "234567").cps.toList=[50,51,52,53,54,55] by decide +kernel] at hf
   exact hf
  walk_at "rd"
  rw[eF]
  refine aqu ac ⟨p,t,_,i,rfl,ac,by lia,hl,_,rfl,?_⟩
  rw[bqi ae,decide_eq_true hf,if_neg (by decide)]
  refine aqu ac ⟨p,t,i,a,rfl,ac,ae,hl,fun H1 s1 c1=>?_⟩
  refine gqa c1 g.aqo g.aqW (cqp c1 g.aqo g.aqD ⟨_,rfl,cqp c1 g.aqo g.aqD ?_⟩)
  walk_at "rd"
  rw[show ((i+1:Nat):Int)+1=((i+2:Nat):Int) by lia,tqM,show i+2 - (i+1)=1 by lia,<- drop_drop,hd,show List.take 1 (List.drop 1 (a::b::r))=[b] from rfl]
  walk_at "rd"
  refine⟨aqq hl,by decide,by decide,fun d af=>?_,?_⟩
  ·simp only[mem_cons,not_mem_nil,or_false] at af
   rcases af with rfl|rfl
   ·exact ha
   ·exact hb
  rw[show signOfL [a,b]=signOf a b from rfl,tqb,hs,if_neg (by intro z;cases z)]
  exact aqu c1 ⟨p,t,i+1,b,rfl,c1,ah,hl,fun H2 s2 c2=>k H2 (s1.trans s2) c2⟩
theorem gqO (g:G K mg):FnOk P w K mg base CX0 3 g.fqT g.eqB ["_law_cell"] (oqn K):=by
 refine g.eqe.ok gqI (fun vs H Q E h=>?_) (fun ag A ad s H vs Q E hr h=>?_)
 ·obtain⟨c,rfl,_⟩:=h;rfl
 ·obtain⟨c,rfl,k⟩:=h
  refine⟨_,(aqc (aqk (i:=1) gqI.nd rfl (Or.inl rfl) (aqf (dqn g) (hr.mono (by decide)) rfl g.cqU g.cql.kp g.cqV .nil pass0 (aqa (pv 0) aqb)))
   (aqE (aqN (aqj (mqX (K:=K) rfl) (pv 1) (aqy (aqa aqg (aqa aqg (aqa aqg aqb)))) (by with_unfolding_all rfl))
    (aqe (aqk (i:=1) gqI.nd rfl (Or.inl rfl) (aqi (aqB (K:=K)) (pv 1) (aqw (aqh (K:=K) rfl) aqg (aqi aqJ (aqi aqz (pv 0) aqd) aqd) (fun _ _=>rfl))))) aqr)
   (aqe (aql (pv 1))))),?_⟩
  have d1:Str.ofString ".."=⟨sUp.toArray⟩:=by decide +kernel
  have d2:Str.ofString "."=⟨sStay.toArray⟩:=by decide +kernel
  rw[d1,d2]
  walk_at "rd"
  refine⟨c,rfl,fun l H1 hl hs s1=>?_⟩
  refine⟨fun σ H2=>Same H H2∧∃l:List Nat,0 < l.length∧l.length≤5∧(∀c∈l,isSg c=true)∧isDot l=false∧σ=[some (.int c),some (tV l)],?_,?_⟩
  ·refine⟨by decide,fun p H2 n2 s2 e2=>?_⟩
   refine⟨p,_,rfl,.inr (.of e2),rfl,rfl,_,rfl,?_⟩
   show if (if false then _ else inV (sV l) [sV [],sV sStay,sV sUp])=true then _ else _
   rw[if_neg (show ¬ false=true by decide),tqa]
   refine ite2 (fun ac=>?_) (fun ac=>?_)
   ·obtain⟨d,hd,af⟩:=nqR (Str.ofString "ab1z").cps.toList (c / 30) 4 (by decide) (by decide +kernel)
    have ae:d≠46∧isSg d=true:=by
     rw[show (Str.ofString "ab1z").cps.toList=[97,98,49,122] by decide +kernel] at hd
     simp only[mem_cons,not_mem_nil,or_false] at hd
     rcases hd with rfl|rfl|rfl|rfl <;> decide
    refine⟨⟨by decide,by decide⟩,by decide,d,by decide +kernel,af,?_⟩
    walk_at "rd"
    refine⟨aqq (by lia),s1.trans s2,l++[d],by simp,by simp;lia,fun e he=>?_,vqg l d ae.1,by simp⟩
    rcases mem_append.mp he with z|z
    ·exact hs e z
    ·rw[mem_singleton.mp z];exact ae.2
   ·simp only[Bool.or_eq_true,decide_eq_true_eq,not_or,Bool.not_eq_true] at ac
    exact⟨s1.trans s2,l,length_pos_iff.mpr ac.1,by lia,hs,ac.2,rfl⟩
  rintro σ H2 ⟨s2,l,h1,h2,h3,h4,rfl⟩
  walk_at "rd"
  exact k l H2 h1 h2 h3 h4 s2
theorem jqH (g:G K mg):FnOk P w K mg base CX0 4 g.cqh g.bqK ["question"] (jqY K):=by
 refine g.dqB.ok jqP (fun vs H Q E h=>?_) (fun aj A ac s H vs Q E hr h=>?_)
 ·obtain⟨q,v,rfl,_⟩:=h;rfl
 ·obtain⟨q,v,rfl,hI,hq,hl,k⟩:=h
  refine⟨_,(aqc (aqN (aqj eqy (pv 0) aqM (nomark _))
    (aqe (aql aqg)) aqr)
   (aqe (aql (aqi (aqR (K:=K) rfl) aqg (cqs (K:=K) rfl PySem.F.plainAttrs_str PySem.F.slot_str_join PySem.F.type_str_join (kqW (K:=K) rfl) aqg (aqa (sqF (K:=K) (fx:=[]) (fr:=[]) rfl rfl rfl (by decide +kernel) rfl (by decide +kernel) rfl rfl (by decide +kernel) rfl .nil rfl (jq0 (K:=K) rfl (pv 0)) (fun _ _ _=>mqJ) (fun _ _ _=>(aqf (mqu g) (hr.mono (by decide)) rfl g.iqK g.fqH.kp g.iqM .nil pass0 (aqa (pv 0) (aqa (pv 1) aqb))))) aqb)))))),?_⟩
  have c1:Str.ofString "?"=⟨[63].toArray⟩:=by decide +kernel
  have c2:Str.ofString "&"=⟨[38].toArray⟩:=by decide +kernel
  rw[c1,c2]
  walk_at "rd"
  cases q with
  |none=>
   cases hI
   exact ite2 (fun _=>k H (Same.refl _)) (fun z=>absurd rfl z)
  |some ps=>
   obtain⟨p,xs,rfl,hp,r⟩:=lqQ hI
   refine ite2 (fun z=>by cases z) (fun _=>?_)
   obtain⟨ai,ad⟩:=hq ps rfl
   have ag:=r.length
   rw[length_map] at ag
   refine⟨p,rfl,⟨_,hp⟩,fun p1 af=>?_⟩
   refine uqm (f:=fun i=>match ps[i]? with|some p=>(.str ⟨p.1.toArray⟩,otV p.2)|none=>(.non,.non)) (zs:=(ps.map pairT).map fun l=>V.str ⟨l.toArray⟩) hp (aqq (by lia)) af (by simp;lia) (fun i x H' hx sm=>?_) (fun i z hi hz H' T sm hT=>?_) (fun H' sm ae=>?_)
   ·have hi:i < ps.length:=by have:=(List.getElem?_eq_some_iff.mp hx).1;lia
    have he:ps[i]?=some ps[i]:=by simp[hi]
    obtain⟨b,x1,x2,rfl,hb,b1,b2⟩:=isK2 (mq9 r (by rw[List.getElem?_map,he];rfl) hx)
    cases qqq b1
    cases tqj b2
    refine⟨b,rfl,?_⟩
    rw[he]
    exact sm.tup hb
   ·have hi:i < ps.length:=by lia
    have he:ps[i]?=some ps[i]:=by simp[hi]
    rw[List.getElem?_map,List.getElem?_map,he] at hz
    simp only[Option.map_some,Option.some.injEq] at hz
    subst hz
    obtain⟨k1,k2,k3⟩:=ad ps[i] (getElem_mem hi)
    rw[he]
    walk_at "rd"
    exact⟨ps[i].1,ps[i].2,rfl,k1,k2,k3,hT⟩
   ·walk_at "rd"
    have hj:=qqJ (sep:=38) (ps.map pairT)
    have ah:(queT (some ps)).length=(joinT 38 (ps.map pairT)).length+1:=by simp[queT]
    refine⟨(ps.map pairT).map fun l=>⟨l.toArray⟩,by rw[map_map (f:=fun l:List Nat=>(⟨l.toArray⟩:Str)) (g:=V.str)];exact .of ae,?_,?_⟩
    ·rw[tqF,length_map]
     have:((ps.map pairT).map List.length).sum+(ps.map pairT).length≤(joinT 38 (ps.map pairT)).length+1:=hj
     lia
    rw[show (⟨#[38]⟩:Str)=⟨[38].toArray⟩ from rfl,qqH,show (⟨#[63]⟩:Str)=⟨[63].toArray⟩ from rfl]
    walk_at "rd"
    refine⟨aqq (by lia),?_⟩
    have:=k H' sm
    simpa [queT] using this
theorem mqk (g:G K mg):FnOk P w K mg base CX0 4 g.dqK g.cqY ["thing"] (mqh K):=by
 refine g.fqB.ok mqr (fun vs H Q E h=>?_) (fun ad A ac s H vs Q E hr h=>?_)
 ·obtain⟨d,v,rfl,_⟩:=h;rfl
 ·obtain⟨d,v,rfl,hv,hs,k⟩:=h
  refine⟨_,(aqe (aql (fqu (aqf (fqt g) (hr.mono (by decide)) rfl g.dqz g.cqi.kp g.dqx .nil pass0 (aqa (pv 0) aqb)) (dqp (rqg (aqf (pqy g) (hr.mono (by decide)) rfl g.nqX g.kq2.kp g.nqI .nil pass0 (aqa (pv 0) aqb))))))),?_⟩
  walk_at "rd"
  refine⟨d,v,rfl,hv,hs,fun H1 s1=>⟨_,rfl,?_⟩⟩
  have k1:=k H1 s1
  cases hv with
  |str z=>
   have e:canD (.str z)=(ftx (.str z) && !isDot z.cps.toList):=rfl
   rw[e] at k1
   refine ite2 (fun hf=>?_) (fun hf=>?_)
   ·rw[hf,Bool.true_and] at k1
    exact⟨z.cps.toList,rfl,_,rfl,k1⟩
   ·rw[Bool.eq_false_iff.mpr hf,Bool.false_and] at k1
    exact k1
  |_=>exact ite2 (fun z=>by cases z) (fun _=>k1)
theorem lqw (g:G K mg):FnOk P w K mg base CX0 4 g.dqj g.cqv ["cursor"] (lqj K g.aqt):=by
 refine g.fqf.ok gqE (fun vs H Q E h=>?_) (fun ah A af s H vs Q E hr h=>?_)
 ·obtain⟨p,t,rfl,_⟩:=h;rfl
 ·obtain⟨p,t,rfl,ac,hl,k⟩:=h
  refine⟨_,(aqc (aqk (i:=1) gqE.nd rfl (Or.inl rfl) (aqw (aqh (K:=K) rfl) (cqs (K:=K) rfl PySem.F.plainAttrs_str PySem.F.slot_str_partition PySem.F.type_str_partition oqI (dqG (pv 0) rfl) (aqa aqg aqb)) aqd (fun _ _=>rfl)))
   (aqc (aqN (PW.pt (kqO (aqj bqk (pv 1) aqg (nomark _)) (kqO (dqm (bqb (aqf (oq9 g) (hr.mono (by decide)) rfl g.lqo g.iqo.kp g.lqq .nil pass0 (aqa (pv 1) aqb)))) (iqV (dqm (bqb (cqz (pv 0) g.aqo g.aqC (aqI g) (hr.mono (by decide)) g.aqH .nil pass0 (aqa (aqi (aqR (K:=K) rfl) (pv 1) aqg) aqb))))))))
    (aqe (aql aqg)) aqr)
   (aqe (aql (pv 1))))),?_⟩
  have e1:Str.ofString ":"=⟨[58].toArray⟩:=by decide +kernel
  rw[e1]
  walk_at "rd"
  refine gqa ac g.aqo g.aqW ⟨rfl,wqz.mpr ⟨by decide,aqq (show t.length≤100000 by lia),fun q hq=>?_⟩⟩
  rw[show (⟨#[58]⟩:Str)=⟨[58].toArray⟩ from rfl,rqZ]
  have ad:=bqc (o:=.tup [.str ⟨(ahead t).toArray⟩,.str (Txt.partition ⟨t.toArray⟩ ⟨[58].toArray⟩).2.1,.str (Txt.partition ⟨t.toArray⟩ ⟨[58].toArray⟩).2.2]) hq
  have ag:(upd H q (.tup [.str ⟨(ahead t).toArray⟩,.str (Txt.partition ⟨t.toArray⟩ ⟨[58].toArray⟩).2.1,.str (Txt.partition ⟨t.toArray⟩ ⟨[58].toArray⟩).2.2])) q=some (.tup [.str ⟨(ahead t).toArray⟩,.str (Txt.partition ⟨t.toArray⟩ ⟨[58].toArray⟩).2.1,.str (Txt.partition ⟨t.toArray⟩ ⟨[58].toArray⟩).2.2]):=aqm
  generalize upd H q (.tup [.str ⟨(ahead t).toArray⟩,.str (Txt.partition ⟨t.toArray⟩ ⟨[58].toArray⟩).2.1,.str (Txt.partition ⟨t.toArray⟩ ⟨[58].toArray⟩).2.2])=H1 at ad ag ⊢
  have c1:=ac.same ad
  have hal:=sqS t
  walk_at "rd"
  refine⟨_,_,.inr (.of ag),rfl,?_⟩
  rw[L2.aq0]
  refine⟨_,rfl,?_⟩
  by_cases h1:ahead t=[]
  ·rw[decide_eq_true (by rw[h1]),if_pos rfl]
   obtain⟨z1,z2⟩:=nqw (t:=t) (fun z=>z.1 h1)
   have:=k H1 ad.but (by rw[z2];exact c1)
   rw[z1] at this
   exact this
  rw[decide_eq_false (fun z=>h1 (jqz.mp z)),if_neg (by decide)]
  refine⟨.str ⟨(ahead t).toArray⟩,_,rfl,.str _,by simp[smallD,Str.length];lia,fun H2 s2=>⟨_,rfl,?_⟩⟩
  have c2:=c1.same s2
  have ae:=ad.trans s2
  cases h2:schD (.str ⟨(ahead t).toArray⟩) with
  |false=>
   rw[if_pos rfl]
   obtain⟨z1,z2⟩:=nqw (t:=t) (fun z=>by rw[h2] at z;cases z.2.1)
   have:=k H2 ae.but (by rw[z2];exact c2)
   rw[z1] at this
   exact this
  |true=>
   rw[if_neg (by decide)]
   refine aqu c2 ?_
   rw[show (⟨#[58]⟩:Str)=⟨[58].toArray⟩ from rfl]
   walk_at "rd"
   refine⟨aqq (by simp;lia),?_⟩
   by_cases h3:t[(ahead t).length]?=some 58
   ·obtain⟨z1,z2⟩:=qqy h1 h2 h3
    have ht:=(mqM t).mpr h3
    refine cqO (w:=ahead t++[58]) (r:=t.drop (ahead t++[58]).length) c2 (Nat.zero_le _) (by lia) ?_ fun H3 s3 c3 _ _=>⟨_,rfl,?_⟩
    ·rw[drop_zero]
     conv=>lhs;rw[<- take_append_drop (ahead t++[58]).length t,ht]
    rw[if_neg (by decide)]
    have:=k H3 (ae.but.trans s3) (by rw[z2];rw[Nat.zero_add] at c3;exact c3)
    rw[z1] at this
    exact this
   ·obtain⟨z1,z2⟩:=nqw (t:=t) (fun z=>h3 z.2.2)
    refine pqL (w:=ahead t++[58]) c2 (Nat.zero_le _) (by lia) (by rw[drop_zero];exact fun z=>h3 ((mqM t).mp z)) ⟨_,rfl,?_⟩
    rw[if_pos rfl]
    have:=k H2 ae.but (by rw[z2];exact c2)
    rw[z1] at this
    exact this
theorem bqQ (g:G K mg):FnOk P w K mg base CX0 4 g.eq2 g.cqQ ["cursor","free","most"] (oqd K g.aqt):=by
 refine g.bql.ok fqO (fun vs H Q E h=>?_) (fun bf A aw s H vs Q E hr h=>?_)
 ·obtain⟨p,t,fr,s,w,r,i,mo,rfl,_⟩:=h;rfl
 ·obtain⟨p,t,fr,s,w',r,i,mo,rfl,ao,hi,hl,aj,be,hd,hw,ax,bc,k⟩:=h
  refine⟨_,(aqc (aqk (i:=3) fqO.nd rfl (Or.inl rfl) (zqA aqb))
   (aqc (aqk (i:=4) fqO.nd rfl (Or.inl rfl) (aqi (aqR (K:=K) rfl) (aqi (aqR (K:=K) rfl) (aqx (v:=pqT) rfl g.pqY ⟨_,rfl⟩) (pv 1)) aqg))
   (aqc (kqV PassesOwn.never (PW.pt (gqu (PW.pt (kqO (aqj eqy (pv 2) aqM (nomark _)) (iqV (aqj qqh (aqF (aqO (K:=K) rfl) rfl g.fqn PySem.boot_len (aqa (pv 3) aqb)) (pv 2) (nomark _))))) (eqp (bqb (cqz (pv 0) g.aqo g.bq2 (dqh g) (hr.mono (by decide)) g.cqK .nil pass0 (aqa (pv 4) aqb))))))
   (aqe (cqo (cqs (K:=K) rfl PySem.F.plainAttrs_list PySem.F.slot_list_append PySem.F.type_list_append bqu (pv 3) (aqa (bqd (bqb (cqz (pv 0) g.aqo g.aqC (aqI g) (hr.mono (by decide)) g.aqH .nil pass0 (aqa aqg aqb))) (aqf (nqO g) (hr.mono (by decide)) rfl g.kqt g.gqD.kp g.kqx .nil pass0 (aqa (pv 0) aqb)) (fq6 (pv 0) g.aqo g.bqv (bqY g) (hr.mono (by decide)) g.bqN .nil pass0)) aqb)))))
   (aqe (aql (cqs (K:=K) rfl PySem.F.plainAttrs_str PySem.F.slot_str_join PySem.F.type_str_join (kqW (K:=K) rfl) aqg (aqa (pv 3) aqb))))))),?_⟩
  have eP:pqT=.str ⟨plS.toArray⟩:=by
   show V.str (Str.ofString _)=_
   unfold plS;simp
  rw[eP]
  walk_at "rd"
  refine⟨by decide,fun q hq=>⟨aqq (by rw[uqu];lia),aqq (by rw[length_append,uqu];lia),?_⟩⟩
  have ah:q≠p:=by obtain⟨dx,hp⟩:=ao;exact (aqn hp hq).symm
  refine nq4 (fun m σ H'=>∃(dn s' u w2:List Nat),m=s'.length∧σ=[some (.ref p),some (.str ⟨fr.toArray⟩),some (moV mo),some (.ref q),some (.str ⟨(plS++fr++[126]).toArray⟩)]∧s=dn++s'∧w'=u++w2∧WrT fr s' w2∧H' q=some (.lst (dn.map one))∧SameBut p H H'∧Cur H' g.aqt p t (i+u.length)) s.length ⟨[],s,[],w',rfl,rfl,rfl,rfl,hw,aqm,(bqc hq).but,?_⟩ ?_
  ·obtain⟨dx,hp⟩:=ao
   exact⟨dx,by rw[aqp ah.symm];exact hp⟩
  rintro m σ H' ⟨dn,s',u,w2,rfl,rfl,es,ew,ap,ag,sb,ad⟩
  have ae:t.drop (i+u.length)=w2++r:=by rw[<- drop_drop,hd,ew,append_assoc,drop_left]
  have ay:dn.length+s'.length=s.length:=by rw[es,length_append]
  have az:i+w'.length≤t.length:=by
   have:=congrArg List.length hd
   rw[length_drop,length_append] at this
   lia
  have hk:i+u.length≤t.length:=by rw[ew,length_append] at az;lia
  have hsl:=xqG hw
  have ai:(dn.map one).length < sizeLine:=by
   rw[length_map]
   exact Nat.lt_of_le_of_lt (show dn.length≤100000 by lia) (by decide)
  have av:s'=[]->∃ys:List Str,SqL K H' q (ys.map V.str)∧(ys.map fun x=>x.length).sum+ys.length * 0≤16777216∧Q (V.str (Txt.join ⟨#[]⟩ ys)) H':=fun e=>by
   subst e
   cases ap
   rw[append_nil] at es ew
   refine⟨dn.map fun c=>⟨[c].toArray⟩,SqL.of (by rw[ag,map_map];rfl),?_,?_⟩
   ·rw[tqS]
    simp only[length_map,Nat.mul_zero,Nat.add_zero]
    lia
   ·rw[show (⟨#[]⟩:Str)=⟨([]:List Nat).toArray⟩ from rfl,rqo,rq4]
    rw[es,ew] at k
    exact k H' sb ad
  cases mo with
  |none=>
   walk_at "rd"
   rw[if_pos (show moV none=V.non from rfl)]
   cases ap with
   |nil=>
    have hn:∀c,t[i+u.length]?=some c->c∉plS++fr++[126]:=fun c hc ac=>by
     have aq:Stops fr r:=ax.resolve_right (by simp)
     have hr:r.head?=some c:=by rw[<- hc,<- List.head?_drop,ae];rfl
     obtain⟨z1,z2,z3⟩:=aq c hr
     have am:=aj c (mem_of_getElem? hc)
     rcases mem_append.mp ac with ac|ac
     ·rcases mem_append.mp ac with ac|ac
      ·rw[(qqE am).mp ac] at z1;cases z1
      ·exact z2 ac
     ·exact z3 (mem_singleton.mp ac)
    have hb:seesB t (plS++fr++[126]) (i+u.length)=false:=by
     cases hc:t[i+u.length]? with
     |none=>exact hqy hc
     |some c=>rw[bqi hc];exact decide_eq_false (hn c hc)
    refine aqu ad ⟨p,t,_,i+u.length,rfl,ad,hk,hl,_,rfl,?_⟩
    rw[hb,if_neg (by decide)]
    exact av rfl
   |self hpl hne hw3=>
    rename_i c s3 w3
    obtain⟨hx,am⟩:=jq6 (show t.drop (i+u.length)=c::(w3++r) from ae)
    have hc:=aj c (mem_of_getElem? hx)
    have ac:c∈plS++fr++[126]:=mem_append.mpr (.inl (mem_append.mpr (hpl.imp (qqE hc).mpr id)))
    refine aqu ad ⟨p,t,_,i+u.length,rfl,ad,hk,hl,_,rfl,?_⟩
    rw[bqi hx,decide_eq_true ac,if_pos rfl]
    refine⟨_,fun _ _ h=>h,⟨_,.of ag⟩,aqu ad ⟨p,t,[126],i+u.length,rfl,ad,hk,hl,fun af=>?_,fun _=>⟨_,rfl,?_⟩⟩⟩
    ·rw[ae] at af
     exact absurd (List.cons.inj af).1 hne
    rw[if_neg (by decide)]
    refine aqu ad ⟨p,t,i+u.length,c,rfl,ad,hx,hl,fun H1 s1 c1=>⟨_,s1 _ _ ah ag,ai,s3.length,Nat.lt_succ_self _,dn++[c],s3,u++[c],w3,rfl,rfl,by rw[es,append_assoc];rfl,by rw[ew,append_assoc];rfl,hw3,?_,?_,?_⟩⟩
    ·rw[aqm,map_append];rfl
    ·exact (sb.trans s1).upd hq
    ·obtain⟨dx,al⟩:=c1
     rw[length_append,length_singleton,<- Nat.add_assoc]
     exact⟨dx,by rw[aqp ah.symm];exact al⟩
   |pair hsg hw3=>
    rename_i c a b s3 w3
    obtain⟨hx,am⟩:=jq6 (show t.drop (i+u.length)=126::(a::b::(w3++r)) from ae)
    have ac:126∈plS++fr++[126]:=mem_append.mpr (.inr (mem_singleton.mpr rfl))
    refine aqu ad ⟨p,t,_,i+u.length,rfl,ad,hk,hl,_,rfl,?_⟩
    rw[bqi hx,decide_eq_true ac,if_pos rfl]
    refine⟨_,fun _ _ h=>h,⟨_,.of ag⟩,aqu ad ⟨p,t,[126],i+u.length,rfl,ad,hk,hl,fun _ H1 s1 c1=>⟨_,rfl,?_⟩,fun af=>?_⟩⟩
    ·rw[if_pos rfl]
     have au:t.drop (i+u.length+1)=a::b::(w3++r):=by rw[<- drop_drop,ae];rfl
     refine⟨p,t,w3++r,i+u.length+1,a,b,c,rfl,c1,au,hsg,hl,fun H2 s2 c2=>⟨_,(s1.trans s2) _ _ ah ag,ai,s3.length,Nat.lt_succ_self _,dn++[c],s3,u++[126,a,b],w3,rfl,rfl,by rw[es,append_assoc];rfl,by rw[ew,append_assoc];rfl,hw3,?_,?_,?_⟩⟩
     ·rw[aqm,map_append];rfl
     ·exact ((sb.trans s1).trans s2).upd hq
     ·obtain⟨dx,al⟩:=c2
      rw[length_append,show [126,a,b].length=3 from rfl,show i+(u.length+3)=i+u.length+1+2 by lia]
      exact⟨dx,by rw[aqp ah.symm];exact al⟩
    ·rw[ae] at af
     exact absurd rfl af
  |some m=>
   have hm:=bc m rfl
   walk_at "rd"
   rw[if_neg (by intro z;cases z)]
   refine⟨_,.inl (.of ag),?_⟩
   show rI0 (fun i j=>V.bl (decide (i < j))) (V.int _) (V.int (m:Int)) H' _
   walk_at "rd"
   refine ite2 (fun ar=>?_) (fun bd=>?_)
   ·rw[length_map] at ar
    cases ap with
    |nil=>
     have hn:∀c,t[i+u.length]?=some c->c∉plS++fr++[126]:=fun c hc ac=>by
      have aq:Stops fr r:=ax.resolve_right (fun z=>by have:=Option.some.inj z;simp at ay;lia)
      have hr:r.head?=some c:=by rw[<- hc,<- List.head?_drop,ae];rfl
      obtain⟨z1,z2,z3⟩:=aq c hr
      have am:=aj c (mem_of_getElem? hc)
      rcases mem_append.mp ac with ac|ac
      ·rcases mem_append.mp ac with ac|ac
       ·rw[(qqE am).mp ac] at z1;cases z1
       ·exact z2 ac
      ·exact z3 (mem_singleton.mp ac)
     have hb:seesB t (plS++fr++[126]) (i+u.length)=false:=by
      cases hc:t[i+u.length]? with
      |none=>exact hqy hc
      |some c=>rw[bqi hc];exact decide_eq_false (hn c hc)
     refine aqu ad ⟨p,t,_,i+u.length,rfl,ad,hk,hl,_,rfl,?_⟩
     rw[hb,if_neg (by decide)]
     exact av rfl
    |self hpl hne hw3=>
     rename_i c s3 w3
     obtain⟨hx,am⟩:=jq6 (show t.drop (i+u.length)=c::(w3++r) from ae)
     have hc:=aj c (mem_of_getElem? hx)
     have ac:c∈plS++fr++[126]:=mem_append.mpr (.inl (mem_append.mpr (hpl.imp (qqE hc).mpr id)))
     refine aqu ad ⟨p,t,_,i+u.length,rfl,ad,hk,hl,_,rfl,?_⟩
     rw[bqi hx,decide_eq_true ac,if_pos rfl]
     refine⟨_,fun _ _ h=>h,⟨_,.of ag⟩,aqu ad ⟨p,t,[126],i+u.length,rfl,ad,hk,hl,fun af=>?_,fun _=>⟨_,rfl,?_⟩⟩⟩
     ·rw[ae] at af
      exact absurd (List.cons.inj af).1 hne
     rw[if_neg (by decide)]
     refine aqu ad ⟨p,t,i+u.length,c,rfl,ad,hx,hl,fun H1 s1 c1=>⟨_,s1 _ _ ah ag,ai,s3.length,Nat.lt_succ_self _,dn++[c],s3,u++[c],w3,rfl,rfl,by rw[es,append_assoc];rfl,by rw[ew,append_assoc];rfl,hw3,?_,?_,?_⟩⟩
     ·rw[aqm,map_append];rfl
     ·exact (sb.trans s1).upd hq
     ·obtain⟨dx,al⟩:=c1
      rw[length_append,length_singleton,<- Nat.add_assoc]
      exact⟨dx,by rw[aqp ah.symm];exact al⟩
    |pair hsg hw3=>
     rename_i c a b s3 w3
     obtain⟨hx,am⟩:=jq6 (show t.drop (i+u.length)=126::(a::b::(w3++r)) from ae)
     have ac:126∈plS++fr++[126]:=mem_append.mpr (.inr (mem_singleton.mpr rfl))
     refine aqu ad ⟨p,t,_,i+u.length,rfl,ad,hk,hl,_,rfl,?_⟩
     rw[bqi hx,decide_eq_true ac,if_pos rfl]
     refine⟨_,fun _ _ h=>h,⟨_,.of ag⟩,aqu ad ⟨p,t,[126],i+u.length,rfl,ad,hk,hl,fun _ H1 s1 c1=>⟨_,rfl,?_⟩,fun af=>?_⟩⟩
     ·rw[if_pos rfl]
      have au:t.drop (i+u.length+1)=a::b::(w3++r):=by rw[<- drop_drop,ae];rfl
      refine⟨p,t,w3++r,i+u.length+1,a,b,c,rfl,c1,au,hsg,hl,fun H2 s2 c2=>⟨_,(s1.trans s2) _ _ ah ag,ai,s3.length,Nat.lt_succ_self _,dn++[c],s3,u++[126,a,b],w3,rfl,rfl,by rw[es,append_assoc];rfl,by rw[ew,append_assoc];rfl,hw3,?_,?_,?_⟩⟩
      ·rw[aqm,map_append];rfl
      ·exact ((sb.trans s1).trans s2).upd hq
      ·obtain⟨dx,al⟩:=c2
       rw[length_append,show [126,a,b].length=3 from rfl,show i+(u.length+3)=i+u.length+1+2 by lia]
       exact⟨dx,by rw[aqp ah.symm];exact al⟩
     ·rw[ae] at af
      exact absurd rfl af
   ·rw[length_map] at bd
    refine av ?_
    cases s' with
    |nil=>rfl
    |cons c s3=>simp only[length_cons] at ay;lia
theorem nqE (g:G K mg):FnOk P w K mg base CX0 4 g.eqS g.dq6 ["_law_cell","_law_name"] (oqf K):=by
 refine g.gqW.ok dq9 (fun vs H Q E h=>?_) (fun ah A ad s H vs Q E hr h=>?_)
 ·obtain⟨c,n,rfl,_⟩:=h;rfl
 ·obtain⟨c,n,rfl,k⟩:=h
  refine⟨_,(aqc (aqN (aqj qqh (aqi aqJ (pv 0) aqd) aqd (nomark _))
    (aqe (aql (aqy (aqa aqg (aqa (aqf (gqO g) (hr.mono (by decide)) rfl g.fq7 g.eqe.kp g.fqR .nil pass0 (aqa (aqi aqz (pv 0) aqd) aqb)) aqb))))) aqr)
   (aqc (aqN (aqj qqh (aqi aqJ (pv 0) aqd) aqd (nomark _))
    (aqc (aqk (i:=2) dq9.nd rfl (Or.inl rfl) (aqf (dqn g) (hr.mono (by decide)) rfl g.cqU g.cql.kp g.cqV .nil pass0 (aqa (aqi aqz (pv 0) aqd) aqb)))
   (aqc (aqk (i:=3) dq9.nd rfl (Or.inl rfl) (aqf (dqn g) (hr.mono (by decide)) rfl g.cqU g.cql.kp g.cqV .nil pass0 (aqa (aqi aqz (pv 0) aqd) aqb)))
   (aqE (aqN (aqj bqk (aqi (aqB (K:=K)) (pv 2) (pv 3)) aqg (nomark _))
    (aqe (aqk (i:=2) dq9.nd rfl (Or.inl rfl) (aqw (aqh (K:=K) rfl) aqg (aqi aqJ (aqi aqz (pv 0) aqd) aqd) (fun _ _=>rfl)))) aqr)
   (aqe (aql (aqy (aqa aqg (aqa (pv 2) (aqa (pv 1) (aqa (pv 3) aqb)))))))))) aqr)
   (aqe (aql (aqy (aqa (aqw (aqh (K:=K) rfl) (aqG (aqa aqg (aqa aqg (aqa aqg (aqa aqg aqb))))) (aqi qq2 (aqi aqJ (pv 0) aqd) aqd) (fun _ _=>rfl)) (aqa (pv 1) aqb))))))),?_⟩
  walk_at "rd"
  have c0:=Int.emod_nonneg c (show (8:Int)≠0 by decide)
  have c1:=Int.emod_lt_of_pos c (show (0:Int) < 8 by decide)
  refine⟨by decide,ite2 (fun _=>⟨⟨by decide,by decide⟩,?_⟩) (fun h2=>⟨by decide,ite2 (fun _=>⟨⟨by decide,by decide⟩,?_⟩) (fun h4=>?_)⟩)⟩
  ·exact⟨_,rfl,fun l H1 h1 h2 h3 h4 s1=>⟨by decide,fun p H2 n2 s2 e2=>k (.step l) p H2 ⟨h1,by lia,h3,h4⟩ rfl (fun z=>by cases z) (s1.trans s2) e2⟩⟩
  ·refine⟨_,rfl,fun hd H1 l1 h1 s1=>⟨⟨by decide,by decide⟩,_,rfl,fun tl H2 l2 h2 s2=>?_⟩⟩
   refine⟨fun σ H3=>Same H H3∧∃hd:List Nat,hd.length≤4∧(∀c∈hd,isSg c=true)∧hd++tl≠[]∧σ=[some (.int c),some (tV n),some (tV hd),some (tV tl)],?_,?_⟩
   ·walk_at "rd"
    refine⟨aqq (by lia),ite2 (fun h0=>?_) (fun h0=>⟨s1.trans s2,hd,l1,h1,fun z=>h0 (by rw[z]),rfl⟩)⟩
    obtain⟨d,ac,af⟩:=nqR (Str.ofString "ab1.").cps.toList (c / 16) 4 (by decide) (by decide +kernel)
    have ag:isSg d=true:=by
     rw[show (Str.ofString "ab1.").cps.toList=[97,98,49,46] by decide +kernel] at ac
     simp only[mem_cons,not_mem_nil,or_false] at ac
     rcases ac with rfl|rfl|rfl|rfl <;> decide
    exact⟨⟨by decide,by decide⟩,by decide,d,by decide +kernel,af,s1.trans s2,[d],by simp,fun e he=>by rw[mem_singleton.mp he];exact ag,by simp,rfl⟩
   rintro σ H3 ⟨s3,hd,l1,h1,ae,rfl⟩
   walk_at "rd"
   exact⟨by decide,fun p H4 n4 s4 e4=>k (.part hd n tl) p H4 ⟨by lia,by lia,h1,h2,ae⟩ rfl (fun _=>rfl) (s3.trans s4) e4⟩
  ·refine⟨by decide,fun p H1 n1 s1 e1=>⟨by decide,?_⟩⟩
   have h:c % 8 - 4=0∨c % 8 - 4=1∨c % 8 - 4=2∨c % 8 - 4=3:=by lia
   rcases h with h|h|h|h <;> rw[h]
   ·exact⟨_,_,.inl (.of e1),aqs (j:=0) rfl,by decide,fun p2 H2 n2 s2 e2=>k (.num n) p2 H2 trivial rfl (fun _=>rfl) (s1.trans s2) e2⟩
   ·exact⟨_,_,.inl (.of e1),aqs (j:=1) rfl,by decide,fun p2 H2 n2 s2 e2=>k (.word n) p2 H2 trivial rfl (fun _=>rfl) (s1.trans s2) e2⟩
   ·exact⟨_,_,.inl (.of e1),aqs (j:=2) rfl,by decide,fun p2 H2 n2 s2 e2=>k (.gap n) p2 H2 trivial rfl (fun _=>rfl) (s1.trans s2) e2⟩
   ·exact⟨_,_,.inl (.of e1),aqs (j:=3) rfl,by decide,fun p2 H2 n2 s2 e2=>k (.gap n) p2 H2 trivial rfl (fun _=>rfl) (s1.trans s2) e2⟩
theorem oqc (g:G K mg):FnOk P w K mg base CX0 4 g.eq6 g.dqJ ["_law_piece_here","_law_cell"] (nq9 K):=by
 refine g.gq4.ok gqi (fun vs H Q E h=>?_) (fun ax A ag s H vs Q E hr h=>?_)
 ·obtain⟨c,p,i,rfl,_⟩:=h;rfl
 ·obtain⟨c,p,i,rfl,hp,aq,ao,k⟩:=h
  refine⟨_,(aqc (aqN (aqj bqk (aqw (aqh (K:=K) rfl) (pv 0) aqd (fun _ _=>rfl)) aqg (nomark _))
    (aqc (aqk (i:=2) gqi.nd rfl (Or.inl rfl) (aqf (dqn g) (hr.mono (by decide)) rfl g.cqU g.cql.kp g.cqV .nil pass0 (aqa (aqi aqz (pv 1) aqd) aqb)))
   (aqc (aqN (PW.pt (kqO (aqj bqk (pv 2) aqg (nomark _)) (iqV (aqj (mqX (K:=K) rfl) (aqi (aqB (K:=K)) (aqi (aqB (K:=K)) (aqw (aqh (K:=K) rfl) (pv 0) aqd (fun _ _=>rfl)) (pv 2)) (aqw (aqh (K:=K) rfl) (pv 0) aqd (fun _ _=>rfl))) (aqy (aqa aqg (aqa aqg aqb))) (by with_unfolding_all rfl)))))
    (aqe (aqk (i:=2) gqi.nd rfl (Or.inl rfl) (aqi (aqB (K:=K)) (pv 2) aqg))) aqr)
   (aqe (aql (pv 2))))) aqr)
   (aqc (aqN (aqj bqk (aqw (aqh (K:=K) rfl) (pv 0) aqd (fun _ _=>rfl)) aqg (nomark _))
    (aqe (aql (aqi aqJ (aqi aqz (pv 1) aqd) (aqw (aqh (K:=K) rfl) (aqG (aqa aqd (aqa aqd (aqa (aqi tqZ aqd aqd) (aqa (aqi tqZ aqd aqd) aqb))))) (aqi aqJ (pv 1) aqd) (fun _ _=>rfl))))) aqr)
   (aqc (aqN (aqj bqk (aqw (aqh (K:=K) rfl) (pv 0) aqd (fun _ _=>rfl)) aqg (nomark _))
    (aqe (aql (aqi eqj (aqw (aqh (K:=K) rfl) aqg (aqi aqJ (aqi aqz (pv 1) aqd) aqd) (fun _ _=>rfl)) (aqi (aqB (K:=K)) aqd (aqi aqJ (aqi aqz (pv 1) aqd) aqd))))) aqr)
   (aqc (aqN (aqj bqk (aqw (aqh (K:=K) rfl) (pv 0) aqd (fun _ _=>rfl)) aqg (nomark _))
    (aqe (aql (iqk (fx:=["_law_cell"]) (fr:=[1]) rfl rfl (by decide +kernel) rfl (by decide +kernel) rfl (by decide +kernel) rfl (.cons rfl rfl rfl rfl .nil) rfl (fqk rfl g.iqr (aqa (aqi (aqB (K:=K)) aqd (aqi aqJ (aqi aqz (pv 1) aqd) aqd)) aqb)) (fun _ _ _=>mqJ) (fun _ _ _=>(aqf (gqO g) (hr.mono (by decide)) rfl g.fq7 g.eqe.kp g.fqR .nil pass0 (aqa (aqi aqz (pv 1) (aqi (aqB (K:=K)) aqd (aqi eqj aqd (pv 0)))) aqb)))))) aqr)
   (aqe (aql (aqf (gqO g) (hr.mono (by decide)) rfl g.fq7 g.eqe.kp g.fqR .nil pass0 (aqa (aqi aqz (pv 1) aqd) aqb)))))))),?_⟩
  have d1:Str.ofString ".."=⟨sUp.toArray⟩:=by decide +kernel
  have d2:Str.ofString "."=⟨sStay.toArray⟩:=by decide +kernel
  have eA:Str.ofString "a"=⟨[97].toArray⟩:=by decide +kernel
  rw[d1,d2,eA]
  walk_at "rd"
  refine⟨_,_,.inr (.of hp),c.at0,aq0.mpr ⟨_,rfl,?_⟩⟩
  rw[jqO]
  refine ite2 (fun h2=>⟨⟨by decide,by decide⟩,i / 8,rfl,fun l H1 hl am s1=>?_⟩) (fun h2=>⟨_,_,.inr (.of hp),c.at0,aq0.mpr ⟨_,rfl,?_⟩⟩)
  ·cases c with
   |part a n t=>
    obtain⟨o1,o2,o3,o4,o5⟩:=aq
    have hv:=s1 _ _ hp
    have ad:∀{H2:Hp},Same H H2->rAddS K (tV l) (tV [97]) H2 Q:=fun {H2} s2=>by
     refine dqA.mpr ⟨aqq (by rw[aqT,aqT];simp only[length_cons,length_nil];lia),?_⟩
     rw[dqq]
     refine k (.txt (l++[97])) _ H2 ⟨_,rfl,by simp,fun z hz=>?_,by rw[length_append,length_singleton];lia,tqB (c:=97) (by simp) (by decide)⟩ (by show (l++[97]).length≤90;rw[length_append,length_singleton];lia) s2 rfl (fun q z=>by cases z)
     rcases mem_append.mp hz with y|y
     ·exact am z y
     ·rw[mem_singleton.mp y];decide
    have ae:decide ((⟨l.toArray⟩:Str)=⟨#[]⟩)=decide (l=[]):=by rw[decide_eq_decide];exact jqz
    refine aq0.mpr ⟨_,rfl,?_⟩
    rw[ae]
    refine ite2 (fun _=>ad s1) (fun au=>⟨_,_,.inr (.of hv),aqs (j:=1) rfl,dqA.mpr ⟨aqq (by rw[aqT,aqT];lia),_,_,.inr (.of hv),aqs (j:=3) rfl,?_⟩⟩)
    rw[dqq]
    refine dqA.mpr ⟨aqq (by rw[aqT,aqT,length_append];lia),?_⟩
    rw[dqq]
    refine⟨by decide,fun p2 H2 n2 s2 e2=>⟨p2,_,rfl,.inr (.of e2),rfl,rfl,_,rfl,?_⟩⟩
    show if (if false then _ else inV (sV (a++l++t)) [sV sStay,sV sUp])=true then _ else _
    rw[if_neg (show ¬ false=true by decide),sqx]
    refine ite2 (fun _=>ad (s1.trans s2)) (fun hd=>?_)
    have ar:l≠[]:=fun z=>au (decide_eq_true z)
    exact k (.txt l) _ H2 ⟨l,rfl,ar,am,by lia,(Bool.not_eq_true _).mp hd⟩ (by show l.length≤90;lia) (s1.trans s2) rfl (fun q z=>by cases z)
   |_=>cases h2
  rw[tq3]
  refine ite2 (fun h3=>?_) (fun h3=>⟨_,_,.inr (.of hp),c.at0,aq0.mpr ⟨_,rfl,?_⟩⟩)
  ·refine⟨⟨by decide,by decide⟩,⟨by decide,by decide,by decide⟩,⟨by decide,by decide,by decide⟩,by decide,fun p2 H2 n2 s2 ap=>⟨by decide,?_⟩⟩
   obtain⟨j,hj,ej⟩:∃j:Nat,j < 4∧i % 4=(j:Int):=⟨(i % 4).toNat,by lia,by lia⟩
   obtain⟨m,hm,al,aj⟩:∃m:Int,[V.int 10,V.int 100,V.int (10 ^ Int.toNat 9),V.int (10 ^ Int.toNat 60)][j]?=some (.int m)∧0 < m∧m≤10 ^ 60:=by
    match j,hj with
    |0,_=>exact⟨_,rfl,by decide,by decide +kernel⟩
    |1,_=>exact⟨_,rfl,by decide,by decide +kernel⟩
    |2,_=>exact⟨_,rfl,by decide,by decide +kernel⟩
    |3,_=>exact⟨_,rfl,by decide +kernel,by decide +kernel⟩
   have m1:=Int.emod_nonneg (i / 8) (show m≠0 by lia)
   have m2:=Int.emod_lt_of_pos (i / 8) al
   refine⟨_,_,.inl (.of ap),by rw[ej];exact aqs hm,rd_I.mpr ⟨al,?_⟩⟩
   cases c with
   |num nm=>exact k (.int (i / 8 % m)) _ H2 ⟨_,rfl,m1,by lia⟩ trivial s2 rfl (fun q z=>by cases z)
   |_=>cases h3
  rw[sqU]
  refine ite2 (fun h4=>?_) (fun h4=>⟨_,_,.inr (.of hp),c.at0,aq0.mpr ⟨_,rfl,?_⟩⟩)
  ·obtain⟨d,hd,av⟩:=nqR (Str.ofString "abcxyz").cps.toList (i / 8) 6 (by decide) (by decide +kernel)
   rw[show (Str.ofString "abcxyz").cps.toList=[97,98,99,120,121,122] by decide +kernel] at hd
   have aw:isSma d=true:=by
    simp only[mem_cons,not_mem_nil,or_false] at hd
    rcases hd with rfl|rfl|rfl|rfl|rfl|rfl <;> decide
   obtain⟨m,hm,aj,ai⟩:∃m:Nat,1+i / 48 % 60=(m:Int)∧1≤m∧m≤60:=⟨(1+i / 48 % 60).toNat,by lia,by lia,by lia⟩
   rw[hm]
   refine⟨⟨by decide,by decide⟩,by decide,d,by decide +kernel,av,⟨by decide,by decide⟩,by decide,tqK d m ai,?_⟩
   rw[uqU d m]
   cases c with
   |word nm=>exact k (.txt (List.replicate m d)) _ H ⟨_,rfl,all_eq_true.mpr fun x hx=>by rw[List.eq_of_mem_replicate hx];exact aw,by rw[length_replicate];lia,by rw[length_replicate];lia⟩ (by show (List.replicate m d).length≤90;rw[length_replicate];lia) (Same.refl _) rfl (fun q z=>by cases z)
   |_=>cases h4
  rw[nqV]
  refine ite2 (fun h5=>?_) (fun h5=>⟨⟨by decide,by decide⟩,i / 8,rfl,fun s H2 a1 a2 a3 a4 s2=>?_⟩)
  ·obtain⟨m,hm,aj,ai⟩:∃m:Nat,1+i / 3 % 5=(m:Int)∧1≤m∧m≤5:=⟨(1+i / 3 % 5).toNat,by lia,by lia,by lia⟩
   rw[hm,Int.toNat_natCast]
   refine⟨⟨by decide,by decide⟩,by decide,by lia,by lia,fun l nl=>?_⟩
   refine pqK (fun j ys H'=>Same H H'∧∃ss:List (List Nat),ys=ss.map tV∧ss.length=j∧∀s∈ss,SgT s∧s.length≤90∧isDot s=false) (aqq (by lia)) ⟨bqc nl,[],rfl,rfl,(fun s hs=>by cases hs)⟩ (fun j ys H2 T hj hJ af hT=>?_) (fun ys H2 hJ af=>?_)
   ·obtain⟨s2,ss,rfl,ah,ac⟩:=hJ
    walk_at "rd"
    refine⟨.inl ⟨by decide,by decide⟩,⟨by lia,by lia⟩,_,rfl,fun s H3 a1 a2 a3 a4 s3=>hT (tV s) H3 (s3 _ _ af) ⟨nqq (s2.trans s3) nl,ss++[s],by rw[map_append];rfl,by rw[length_append,ah];rfl,fun z hz=>?_⟩⟩
    rcases mem_append.mp hz with y|y
    ·exact ac z y
    ·rw[mem_singleton.mp y];exact⟨⟨length_pos_iff.mp a1,a3⟩,by lia,a4⟩
   ·obtain⟨s2,ss,rfl,ah,ac⟩:=hJ
    cases c with
    |rest nm=>exact k (.lst ss) _ H2 ⟨ss,rfl,length_pos_iff.mp (by lia),by lia,fun s hs=>⟨(ac s hs).1,by have:=(ac s hs).2.1;lia,(ac s hs).2.2⟩⟩ ⟨by lia,fun s hs=>(ac s hs).2.1⟩ s2 ⟨l,rfl,af⟩ (fun q z=>by cases z;exact nl)
    |_=>cases h5
  ·cases c with
   |step w=>cases ao
   |part a n t=>exact absurd rfl h2
   |num n=>exact absurd rfl h3
   |word n=>exact absurd rfl h4
   |rest n=>exact absurd rfl h5
   |gap n=>exact k (.txt s) _ H2 ⟨s,rfl,⟨length_pos_iff.mp a1,a3⟩,by lia,a4⟩ (by show s.length≤90;lia) s2 rfl (fun q z=>by cases z)
theorem xql (g:G K mg):FnOk P w K mg base CX0 5 g.qqn g.nqt ["address"] (yqR K):=by
 refine g.tqH.ok uqn (fun vs H Q E h=>?_) (fun af A ad s H vs Q E hr h=>?_)
 ·obtain⟨x,v,rfl,_⟩:=h;rfl
 ·obtain⟨x,v,rfl,hI,wf,sz,k⟩:=h
  refine⟨_,(aqE (aqk (i:=1) uqn.nd rfl (Or.inl rfl) (bqd (bqb (aqf (mqd g) (hr.mono (by decide)) rfl g.jqM g.hqB.kp g.jqI .nil pass0 (aqa (pv 0) aqb))) (aqi (aqR (K:=K) rfl) (aqw (aqh (K:=K) rfl) (pv 0) (aqx (v:=rqq) rfl g.nqN ⟨_,rfl⟩) (fun _ _=>rfl)) aqg) aqg))
   (aqe (aql (aqi (aqR (K:=K) rfl) (aqi (aqR (K:=K) rfl) (aqi (aqR (K:=K) rfl) (aqi (aqR (K:=K) rfl) (pv 1) (aqf (mqw g) (hr.mono (by decide)) rfl g.iqL g.fqY.kp g.iq0 .nil pass0 (aqa (aqw (aqh (K:=K) rfl) (pv 0) (aqx (v:=yqV) rfl g.uqd ⟨_,rfl⟩) (fun _ _=>rfl)) (aqa (aqw (aqh (K:=K) rfl) (pv 0) (aqx (v:=zq0) rfl g.wqD ⟨_,rfl⟩) (fun _ _=>rfl)) aqb)))) (aqf (pqA g) (hr.mono (by decide)) rfl g.lq7 g.iqn.kp g.lql .nil pass0 (aqa (aqw (aqh (K:=K) rfl) (pv 0) (aqx (v:=zqJ) rfl g.yqx ⟨_,rfl⟩) (fun _ _=>rfl)) aqb))) (aqf (jqH g) (hr.mono (by decide)) rfl g.gqn g.dqB.kp g.gqr .nil pass0 (aqa (aqw (aqh (K:=K) rfl) (pv 0) (aqx (v:=rq7) rfl g.mqZ ⟨_,rfl⟩) (fun _ _=>rfl)) aqb))) (aqf (nqi g) (hr.mono (by decide)) rfl g.kqe g.hqf.kp g.kql .nil pass0 (aqa (aqw (aqh (K:=K) rfl) (pv 0) (aqx (v:=zqV) rfl g.wqC ⟨_,rfl⟩) (fun _ _=>rfl)) aqb)))))),?_⟩
  obtain⟨p,w,q,rfl,hp,ae,i4⟩:=Aqe hI
  obtain⟨pw,ps,rfl,hw,hs⟩:=xqv ae
  have ac:=sz.all
  rw[Ad.shw] at ac
  simp only[length_append] at ac
  have c1:Str.ofString ":"=⟨[58].toArray⟩:=by decide +kernel
  rw[c1]
  walk_at "rd"
  refine⟨fun σ H'=>H'=H∧σ=[some (.ref p),some (.str ⟨(schT x.scheme).toArray⟩)],?_,?_⟩
  ·refine⟨p,x.scheme,_,rfl,hp,_,rfl,?_⟩
   by_cases hh:x.scheme=[]
   ·refine ite2 (fun z=>absurd hh (by simpa using z)) (fun _=>⟨rfl,?_⟩)
    rw[hh];rfl
   ·refine ite2 (fun _=>?_) (fun z=>absurd hh (by simpa using z))
    have e:schT x.scheme=x.scheme++[58]:=by simp[schT,hh]
    refine⟨_,_,.inr hp,rfl,?_⟩
    rw[show (⟨#[58]⟩:Str)=⟨[58].toArray⟩ from rfl]
    walk_at "rd"
    rw[e,length_append] at ac
    refine⟨aqq (by simp at ac ⊢;lia),?_⟩
    rw[e]
  rintro σ H' ⟨rfl,rfl⟩
  walk_at "rd"
  refine⟨_,_,.inr hp,rfl,_,_,.inr hp,rfl,x.house,x.door,rfl,fun l e=>⟨(wf.hou l e).1.2,(wf.hou l e).2⟩,wf.doo,fun H1 s1=>?_⟩
  walk_at "rd"
  refine⟨aqq (by simp;lia),_,_,.inr (s1.tup hp),rfl,x.rooted,x.ends,x.steps,pw,ps,rfl,s1.tup hw,s1.tup hs,fun s h=>⟨sz.stp s h,(wf.stp s h).2⟩,sz.num,by show x.wayT.length≤90000;lia,fun H2 s2=>?_⟩
  walk_at "rd"
  refine⟨aqq (by show _+x.wayT.length≤_;simp;lia),_,_,.inr ((s1.trans s2).tup hp),rfl,x.quest,q,rfl,i4.mono (s1.trans s2),fun ps e=>⟨(sz.que ps e).1,fun q hq=>⟨wf.que ps e q hq,(sz.que ps e).2 q hq⟩⟩,by lia,fun H3 s3=>?_⟩
  walk_at "rd"
  refine⟨aqq (by show _+(queT x.quest).length≤_;simp[Ad.wayT] at ac ⊢;lia),_,_,.inr (((s1.trans s2).trans s3).tup hp),rfl,x.mark,rfl,fun l e=>⟨sz.mar l e,wf.mar l e⟩,fun H4 s4=>?_⟩
  walk_at "rd"
  refine⟨aqq (by simp[Ad.wayT] at ac ⊢;lia),?_⟩
  have:=k H4 (((s1.trans s2).trans s3).trans s4)
  rw[Ad.shw] at this
  simpa [Ad.wayT] using this
theorem pqW (g:G K mg):FnOk P w K mg base CX0 5 g.hqQ g.gqb ["gap","value"] (pq4 K):=by
 refine g.jq5.ok pqI (fun vs H Q E h=>?_) (fun ai A ae s H vs Q E hr h=>?_)
 ·obtain⟨c,p,d,v,rfl,_⟩:=h;rfl
 ·obtain⟨c,p,d,v,rfl,hp,hc,hh,ht,hv,hs,k⟩:=h
  refine⟨_,(aqc (aqN (aqj bqk (aqw (aqh (K:=K) rfl) (pv 0) aqd (fun _ _=>rfl)) aqg (nomark _))
    (aqe (aql (fqu (aqF eqo rfl g.bqm aq4 (aqa (pv 1) (aqa (iqt (v:=.ty "list") rfl g.qqQ pq9 rfl) aqb))) (fqu (aq5 oqb (aqF (aqO (K:=K) rfl) rfl g.fqn PySem.boot_len (aqa (pv 1) aqb)) aqd (nomark _)) (dqp (aqF (oqH (K:=K) rfl rfl) rfl g.wq9 PyProof.Rows.boot_all (aqa (iqk (fx:=[]) (fr:=[]) rfl rfl (by decide +kernel) rfl (by decide +kernel) rfl (by decide +kernel) rfl .nil rfl (kq4 (K:=K) rfl (pv 1)) (fun _ _ _=>mqJ) (fun _ _ _=>(aqf (mqk g) (hr.mono (by decide)) rfl g.iqE g.fqB.kp g.jqe .nil pass0 (aqa (pv 0) aqb)))) aqb))))))) aqr)
   (aqc (aqN (aqj bqk (aqw (aqh (K:=K) rfl) (pv 0) aqd (fun _ _=>rfl)) aqg (nomark _))
    (aqe (aql (fqu (aqf (jqm g) (hr.mono (by decide)) rfl g.fqw g.cqW.kp g.fqj .nil pass0 (aqa (pv 1) aqb)) (dqp (qqt vqm qqh aqd (pv 1) (aqi tqZ aqd aqd)))))) aqr)
   (aqc (aqN (aqj bqk (aqw (aqh (K:=K) rfl) (pv 0) aqd (fun _ _=>rfl)) aqg (nomark _))
    (aqe (aql (fqu (aqF eqo rfl g.bqm aq4 (aqa (pv 1) (aqa (iqt (v:=.ty "str") rfl g.pq0 mq4 rfl) aqb))) (dqp (aqf (rqS g) (hr.mono (by decide)) rfl g.oqU g.lqA.kp g.oqV .nil pass0 (aqa (pv 1) aqb)))))) aqr)
   (aqe (aql (fqu (aqf (fqt g) (hr.mono (by decide)) rfl g.dqz g.cqi.kp g.dqx .nil pass0 (aqa (pv 1) aqb)) (dqp (rqg (aqf (pqy g) (hr.mono (by decide)) rfl g.nqX g.kq2.kp g.nqI .nil pass0 (aqa (aqi (aqB (K:=K)) (aqi (aqB (K:=K)) (aqf (nqb g) (hr.mono (by decide)) rfl g.lq5 g.jqp.kp g.lqB .nil pass0 (aqa (pv 0) aqb)) (pv 1)) (aqf (mq3 g) (hr.mono (by decide)) rfl g.lqF g.iq2.kp g.lq0 .nil pass0 (aqa (pv 0) aqb))) aqb)))))))))),?_⟩
  walk_at "rd"
  refine⟨_,_,.inr hp,c.at0,aq0.mpr ⟨_,rfl,?_⟩⟩
  rw[nqV]
  refine ite2 (fun ac=>?_) (fun ac=>⟨_,_,.inr hp,c.at0,aq0.mpr ⟨_,rfl,?_⟩⟩)
  ·cases c with
   |rest n=>
    have k1:=k
    cases hv with
    |lst hl r=>
     rename_i a xs ds
     refine⟨"list",kq0 hl,?_⟩
     rw[if_pos (by decide)]
     have ah:=r.length
     have af:ds.length≤100000∧smallAll ds=true:=by simpa [smallD] using hs
     refine sqY.mpr ⟨xs,.inl (.of hl),uqR.mpr ⟨_,rfl,?_⟩⟩
     have e:isValD (.rest n) (.list ds)=(decide (0 < ds.length) && ds.all canD):=rfl
     rw[e] at k
     refine ite2 (fun h0=>?_) (fun h0=>?_)
     ·have h0:0 < ds.length:=by have:=of_decide_eq_true h0;lia
      rw[decide_eq_true h0,Bool.true_and] at k
      refine⟨_,rfl,⟨_,.of hl⟩,fun p0 n0=>?_⟩
      refine rq1 (zs:=(ds.map canD).map V.bl) (.of hl) (aqq (by lia)) n0 (by rw[length_map,length_map,ah]) (fun i x z hx hz H1 T s1 hT=>?_) (fun H1 s1 ag=>?_)
      ·obtain⟨d,hd,hI⟩:=r.at i x hx
       rw[List.getElem?_map,List.getElem?_map,hd] at hz
       cases hz
       walk_at "rd"
       exact⟨d,x,rfl,hI.mono s1,kqk af.2 (mem_of_getElem? hd),fun H2 s2=>hT H2 s2⟩
      ·refine pqE.mpr ⟨ds.map canD,.of ag,?_⟩
       have:=k H1 s1
       rw[all_map]
       exact this
     ·have h0:¬ 0 < ds.length:=fun z=>h0 (decide_eq_true (by lia))
      rw[decide_eq_false h0,Bool.false_and] at k
      exact k H (Same.refl _)
    |tup hl r=>
     refine⟨"tuple",lqa hl,?_⟩
     rw[if_neg (by decide)]
     exact k H (Same.refl _)
    |non=>exact⟨"NoneType",rfl,ite2 (fun z=>absurd z (by decide)) (fun _=>k H (Same.refl _))⟩
    |bl b=>exact⟨"bool",rfl,ite2 (fun z=>absurd z (by decide)) (fun _=>k H (Same.refl _))⟩
    |int i=>exact⟨"int",rfl,ite2 (fun z=>absurd z (by decide)) (fun _=>k H (Same.refl _))⟩
    |str x=>exact⟨"str",rfl,ite2 (fun z=>absurd z (by decide)) (fun _=>k H (Same.refl _))⟩
   |_=>cases ac
  rw[tq3]
  refine ite2 (fun ad=>?_) (fun ad=>⟨_,_,.inr hp,c.at0,aq0.mpr ⟨_,rfl,?_⟩⟩)
  ·cases c with
   |num n=>
    refine⟨d,v,rfl,hv,_,rfl,?_⟩
    cases hv with
    |int i=>
     refine ite2 (fun _=>uqR.mpr ⟨_,rfl,?_⟩) (fun z=>absurd rfl z)
     have e:isValD (.num n) (.int i)=decide (0≤i∧i < 10 ^ 60):=rfl
     rw[e] at k
     have k1:=k H (Same.refl _)
     refine ite2 (fun h0=>⟨⟨by decide,by decide,by decide⟩,uqR.mpr ?_⟩) (fun h0=>?_)
     ·have h0:=of_decide_eq_true h0
      rw[show decide (0≤i∧i < 10 ^ 60)=decide (i < 10 ^ Int.toNat 60) by rw[decide_eq_decide];exact⟨fun z=>z.2,fun z=>⟨h0,z⟩⟩] at k1
      exact k1
     ·rw[decide_eq_false (fun z=>h0 (decide_eq_true z.1))] at k1
      exact k1
    |_=>exact ite2 (fun z=>by cases z) (fun _=>k H (Same.refl _))
   |_=>cases ad
  rw[sqU]
  refine ite2 (fun hw=>?_) (fun hw=>?_)
  ·cases c with
   |word n=>
    cases hv with
    |str x=>
     refine⟨"str",rfl,ite2 (fun _=>?_) (fun z=>absurd (by decide) z)⟩
     have hl:=fqx hs
     exact⟨x.cps.toList,rfl,hl,fun H1 s1=>k H1 s1⟩
    |lst hl r=>exact⟨"list",kq0 hl,ite2 (fun z=>absurd z (by decide)) (fun _=>k H (Same.refl _))⟩
    |tup hl r=>exact⟨"tuple",lqa hl,ite2 (fun z=>absurd z (by decide)) (fun _=>k H (Same.refl _))⟩
    |non=>exact⟨"NoneType",rfl,ite2 (fun z=>absurd z (by decide)) (fun _=>k H (Same.refl _))⟩
    |bl b=>exact⟨"bool",rfl,ite2 (fun z=>absurd z (by decide)) (fun _=>k H (Same.refl _))⟩
    |int i=>exact⟨"int",rfl,ite2 (fun z=>absurd z (by decide)) (fun _=>k H (Same.refl _))⟩
   |_=>cases hw
  ·have e:isValD c d=(ftx d && !isDot (c.head++txD d++c.tail)):=by
    cases c with
    |part a b e=>rfl
    |gap n=>show (ftx d && !isDot (txD d))=(ftx d && !isDot ([]++txD d++[]));rw[nil_append,append_nil]
    |step s=>cases hc
    |num n=>exact absurd rfl ad
    |word n=>exact absurd rfl hw
    |rest n=>exact absurd rfl ac
   rw[e] at k
   refine⟨d,v,rfl,hv,hs,fun H1 s1=>⟨_,rfl,?_⟩⟩
   refine ite2 (fun hf=>?_) (fun hf=>?_)
   ·cases hv with
    |str x=>
     obtain⟨⟨l⟩⟩:=x
     have hl:l.length≤100000:=fqx hs
     rw[hf,Bool.true_and] at k
     have b3:300000≤sizeLine:=by decide
     refine⟨c,p,rfl,s1.tup hp,dqA.mpr ⟨Nat.le_trans (show c.head.length+l.length≤300000 by lia) b3,c,p,rfl,s1.tup hp,dqA.mpr ⟨?_,?_⟩⟩⟩
     ·show ((⟨c.head.toArray⟩:Str)++⟨l.toArray⟩).length+c.tail.length≤_
      rw[dqq,aqT,length_append]
      lia
     ·show oqZ [V.str ((⟨c.head.toArray⟩:Str)++⟨l.toArray⟩++⟨c.tail.toArray⟩)] H1 _ E0
      rw[dqq,dqq]
      exact⟨_,rfl,_,rfl,k H1 s1⟩
    |_=>cases hf
   ·rw[Bool.eq_false_iff.mpr hf,Bool.false_and] at k
    exact k H1 s1
theorem oqA (g:G K mg):FnOk P w K mg base CX0 5 g.fqM g.eqG ["cursor","must_be_rooted"] (kqi K g.aqt):=by
 refine g.iqv.ok bqJ (fun vs H Q E h=>?_) (fun bq A bd s H vs Q E hr h=>?_)
 ·obtain⟨p,t,v,ac,i,ad,r,ss,e,rfl,_⟩:=h;rfl
 ·obtain⟨p,t,v,ac,i,ad,r,ss,e,rfl,ae,hi,hl,af,hd,hw,he,bn,aj,bf,k⟩:=h
  refine⟨_,(aqE (aqk (i:=2) bqJ.nd rfl (Or.inl rfl) (cqz (pv 0) g.aqo g.aqC (aqI g) (hr.mono (by decide)) g.aqH .nil pass0 (aqa aqg aqb)))
   (aqE (aqN (PW.pt (gqu (bqb (pv 1)) (eqp (dqm (bqb (pv 2))))))
    (aqe (aql (aqy (aqa kqJ (aqa (aqy aqb) (aqa kqJ aqb)))))) aqr)
   (aqc (aqk (i:=3) bqJ.nd rfl (Or.inl rfl) (aqG aqb))
   (aqc (aqk (i:=4) bqJ.nd rfl (Or.inl rfl) (pv 2))
   (aqE (aqk (i:=5) bqJ.nd rfl (Or.inl rfl) (aqf (dvs:=[.non]) (bqQ g) (hr.mono (by decide)) rfl g.bqA g.bql.kp g.bqO (.cons rfl .nil) pass0 (aqa (pv 0) (aqa (aqx (v:=equ) rfl g.eqz ⟨_,rfl⟩) aqb))))
   (aqc (kqV PassesOwn.never (aqj lqi (pv 5) aqg (nomark _))
   (aqc (cqo (cqs (K:=K) rfl PySem.F.plainAttrs_list PySem.F.slot_list_append PySem.F.type_list_append bqu (pv 3) (aqa (pv 5) aqb)))
   (aqc (aqk (i:=4) bqJ.nd rfl (Or.inl rfl) (cqz (pv 0) g.aqo g.aqC (aqI g) (hr.mono (by decide)) g.aqH .nil pass0 (aqa aqg aqb)))
   (aqe (aqk (i:=5) bqJ.nd rfl (Or.inl rfl) (aqf (dvs:=[.non]) (bqQ g) (hr.mono (by decide)) rfl g.bqA g.bql.kp g.bqO (.cons rfl .nil) pass0 (aqa (pv 0) (aqa (aqx (v:=equ) rfl g.eqz ⟨_,rfl⟩) aqb))))))))
   (aqe (aql (aqy (aqa (pv 2) (aqa (aq8 (cqS (K:=K) rfl) rfl g.gqM fqK (aqa (pv 3) aqb)) (aqa (pv 4) aqb)))))))))))),?_⟩
  have eF:equ=.str ⟨frS.toArray⟩:=by
   show V.str (Str.ofString _)=_
   unfold frS;simp
  have e1:Str.ofString "/"=⟨[47].toArray⟩:=by decide +kernel
  rw[eF,e1]
  walk_at "rd"
  refine⟨fun σ H1=>SameBut p H H1∧∃j,σ=[some (.ref p),some (.bl ad),some (.bl r),none,none,none]∧Cur H1 g.aqt p t j∧j≤t.length∧t.drop j=v++ac,?_,?_⟩
  ·cases r with
   |true=>exact aqu ae (cqO (w:=[47]) ae hi hl hd fun H1 s1 c1 bo bp=>⟨s1,_,rfl,c1,bo,bp⟩)
   |false=>exact aqu ae (fq1 ae hi hl (show t.drop i=v++ac from hd) (rqi hw bf) ⟨SameBut.refl _ _,i,rfl,ae,hi,hd⟩)
  rintro σ H1 ⟨s1,j,rfl,c1,hj,ah⟩
  walk_at "rd"
  refine⟨fun σ H2=>H2=H1∧σ=[some (.ref p),some (.bl ad),some (.bl r),none,none,none],?_,?_⟩
  ·by_cases hm:ad=true
   ·rw[if_pos hm,if_neg (by rw[bn hm];decide)]
    exact⟨rfl,rfl⟩
   ·rw[if_neg hm]
    exact⟨rfl,rfl⟩
  rintro σ H2 ⟨rfl,rfl⟩
  walk_at "rd"
  refine⟨by decide,fun q H3 hq s3 be=>?_⟩
  have ag:q≠p:=by obtain⟨dx,hp⟩:=c1;exact (aqn hp hq).symm
  have c3:=c1.same s3
  have bc:SameBut p H H3:=s1.trans s3.but
  have bh:H q=none:=s1.free hq ag
  have bg:ss.length≤t.length:=by
   have h1:=uq9 hw
   have h2:=congrArg List.length ah
   rw[length_drop,length_append] at h2
   lia
  obtain⟨W,hW⟩:∃W:Nat->St->Hp->Prop,W=fun m σ H'=>(∃(dn:List (List Nat)) (s:List Nat) (am:List (List Nat)) (v':List Nat) (j':Nat) (en:Bool),m=am.length+1∧σ=[some (.ref p),some (.bl ad),some (.bl r),some (.ref q),some (.bl en),some (.str ⟨s.toArray⟩)]∧s≠[]∧ss=dn++s::am∧TlW am e v'∧Cur H' g.aqt p t j'∧j'≤t.length∧t.drop j'=v'++ac∧H' q=some (.lst (dn.map sV))∧SameBut p H H')
    ∨ (m=0∧σ=[some (.ref p),some (.bl ad),some (.bl r),some (.ref q),some (.bl e),some (.str ⟨#[]⟩)]∧H' q=some (.lst (ss.map sV))∧SameBut p H H'∧Cur H' g.aqt p t (t.length - ac.length)):=⟨_,rfl⟩
  have rl:∀{ay:Nat}{v'':List Nat},t.drop ay=v''++ac->ay+v''.length=t.length - ac.length∨t.length < ay:=fun {ay v''} h=>by
   have:=congrArg List.length h
   rw[length_drop,length_append] at this
   lia
  refine⟨fun σ H4=>∃m,W m σ H4,?_,?_⟩
  ·cases hw with
   |none=>
    refine⟨p,t,frS,[],[],ac,j,none,rfl,c3,hj,hl,af,lqu,ah,.nil,.inl aj,(fun m z=>by cases z),fun H4 s4 c4=>⟨0,?_⟩⟩
    rw[hW]
    refine .inr ⟨rfl,by rw[he rfl],s4 _ _ ag be,bc.trans s4,?_⟩
    rcases rl (v'':=[]) ah with z|z
    ·rw[<- z];exact c4
    ·lia
   |some hws hs ap=>
    rename_i s w0 ss0 v0
    refine⟨p,t,frS,s,w0,v0++ac,j,none,rfl,c3,hj,hl,af,lqu,by rw[ah,append_assoc],hws,.inl (qqY ap aj),(fun m z=>by cases z),fun H4 s4 c4=>⟨ss0.length+1,?_⟩⟩
    rw[hW]
    refine .inl ⟨[],s,ss0,v0,j+w0.length,r,rfl,rfl,hs,rfl,ap,c4,?_,?_,s4 _ _ ag be,bc.trans s4⟩
    ·have:=congrArg List.length ah
     rw[length_drop,length_append,length_append] at this
     lia
    ·rw[<- drop_drop,ah,append_assoc,drop_left]
  rintro σ H4 ⟨m,hm⟩
  unfold L2.Later
  rw[L2.sqC]
  refine nq4 W m hm ?_
  rintro m σ H5 hm
  rw[hW] at hm
  rcases hm with⟨dn,s,am,v',j',en,rfl,rfl,hs,av,ap,c5,au,al,ar,aw⟩|⟨rfl,rfl,ar,aw,c5⟩
  ·walk_at "rd"
   refine ite2 (fun _=>⟨_,fun _ _ h=>h,⟨_,.of ar⟩,_,ar,?_,?_⟩) (fun z=>absurd (jqz.mp (Classical.not_not.mp z)) hs)
   ·have:=congrArg List.length av
    rw[length_append,length_cons] at this
    rw[length_map]
    exact Nat.lt_of_le_of_lt (show dn.length≤100000 by lia) (by decide)
   have c6:Cur (upd H5 q (.lst (dn.map sV++[sV s]))) g.aqt p t j':=by
    obtain⟨dx,hp⟩:=c5
    exact⟨dx,by rw[aqp ag.symm];exact hp⟩
   have ao:SameBut p H (upd H5 q (.lst (dn.map sV++[sV s]))):=aw.upd bh
   have aq:(upd H5 q (.lst (dn.map sV++[sV s]))) q=some (.lst ((dn++[s]).map sV)):=by rw[aqm,map_append];rfl
   generalize upd H5 q (.lst (dn.map sV++[sV s]))=H6 at c6 ao aq ⊢
   cases ap with
   |stop=>
    refine aqu c6 (fq1 c6 au hl al bf ?_)
    refine⟨p,t,frS,[],[],ac,j',none,rfl,c6,au,hl,af,lqu,al,.nil,.inl aj,(fun m z=>by cases z),fun H7 s7 c7=>⟨0,by lia,?_⟩⟩
    rw[hW]
    refine .inr ⟨rfl,rfl,by rw[av];exact s7 _ _ ag aq,ao.trans s7,?_⟩
    rcases rl (v'':=[]) al with z|z
    ·rw[<- z];exact c7
    ·lia
   |ends=>
    refine aqu c6 (cqO (w:=[47]) (r:=ac) c6 au hl al fun H7 s7 c7 az ai=>?_)
    refine⟨p,t,frS,[],[],ac,_,none,rfl,c7,az,hl,af,lqu,ai,.nil,.inl aj,(fun m z=>by cases z),fun H8 s8 c8=>⟨0,by lia,?_⟩⟩
    rw[hW]
    refine .inr ⟨rfl,rfl,by rw[av];exact (s7.trans s8) _ _ ag aq,(ao.trans s7).trans s8,?_⟩
    rcases rl (v'':=[]) ai with z|z
    ·rw[<- z];exact c8
    ·lia
   |more hws hs2 htl2=>
    rename_i s2 w2 ss2 v2
    refine aqu c6 (cqO (w:=[47]) (r:=(w2++v2)++ac) c6 au hl al fun H7 s7 c7 az ai=>?_)
    refine⟨p,t,frS,s2,w2,v2++ac,_,none,rfl,c7,az,hl,af,lqu,by rw[ai,append_assoc],hws,.inl (qqY htl2 aj),(fun m z=>by cases z),fun H8 s8 c8=>⟨ss2.length+1,by simp only[length_cons];lia,?_⟩⟩
    rw[hW]
    refine .inl ⟨dn++[s],s2,ss2,v2,_,true,rfl,rfl,hs2,by rw[av,append_assoc];rfl,htl2,c8,?_,?_,(s7.trans s8) _ _ ag aq,(ao.trans s7).trans s8⟩
    ·have:=congrArg List.length ai
     rw[length_drop,length_append,length_append] at this
     lia
    ·rw[<- drop_drop,ai,append_assoc,drop_left]
  ·walk_at "rd"
   exact⟨_,.inl (.of ar),fun pt Ha sa bj=>⟨by decide,fun pw Hb nb ax bi=>k _ Hb ((aw.trans sa.but).trans ax.but) ((c5.same sa).same ax) (wayT' bi (ax _ _ bj))⟩⟩
theorem hqY (g:G K mg):FnOk P w K mg base CX0 5 g.dqV g.dqc ["cursor"] (mqB K g.aqt):=by
 refine g.dqR.ok mqA (fun vs H Q E h=>?_) (fun ai A ae s H vs Q E hr h=>?_)
 ·obtain⟨p,t,w,r,i,o,rfl,_⟩:=h;rfl
 ·obtain⟨p,t,w',r,i,o,rfl,ac,hi,hl,ad,hd,hw,af,hh,k⟩:=h
  refine⟨_,(aqe (aql (bqd (bqb (cqz (pv 0) g.aqo g.aqC (aqI g) (hr.mono (by decide)) g.aqH .nil pass0 (aqa aqg aqb))) (aqf (dvs:=[.non]) (bqQ g) (hr.mono (by decide)) rfl g.bqA g.bql.kp g.bqO (.cons rfl .nil) pass0 (aqa (pv 0) (aqa (aqx (v:=aq2) rfl g.bqq ⟨_,rfl⟩) aqb))) aqM))),?_⟩
  have eF:aq2=.str ⟨frQ.toArray⟩:=by
   show V.str (Str.ofString _)=_
   unfold frQ;simp
  have e1:Str.ofString "="=⟨[61].toArray⟩:=by decide +kernel
  rw[eF,e1]
  walk_at "rd"
  cases o with
  |none=>
   have hw:w'=[]:=hw
   subst hw
   refine aqu ac (fq1 ac hi hl hd (by simpa using hh) ⟨_,rfl,?_⟩)
   rw[if_neg (by decide)]
   exact k H (SameBut.refl _ _) ac
  |some s=>
   obtain⟨v,rfl,hv⟩:=hw
   refine aqu ac (cqO (w:=[61]) (r:=v++r) ac hi hl hd fun H1 s1 c1 ag ah=>⟨_,rfl,?_⟩)
   rw[if_pos rfl]
   refine⟨p,t,frQ,s,v,r,_,none,rfl,c1,ag,hl,ad,nqF,ah,hv,.inl af,(fun m z=>by cases z),fun H2 s2 c2=>k H2 (s1.trans s2) ?_⟩
   rw[length_cons,show i+(v.length+1)=i+[61].length+v.length by simp only[length_singleton];lia]
   exact c2
theorem nqp (g:G K mg):FnOk P w K mg base CX0 5 g.eqL g.dq5 ["cursor"] (nqm K g.aqt):=by
 refine g.hqu.ok nql (fun vs H Q E h=>?_) (fun ah A ae s H vs Q E hr h=>?_)
 ·obtain⟨p,t,w,i,o,rfl,_⟩:=h;rfl
 ·obtain⟨p,t,w',i,o,rfl,ac,hi,hl,ad,hd,hw,k⟩:=h
  refine⟨_,(aqe (aql (bqd (bqb (cqz (pv 0) g.aqo g.aqC (aqI g) (hr.mono (by decide)) g.aqH .nil pass0 (aqa aqg aqb))) (aqf (dvs:=[.non]) (bqQ g) (hr.mono (by decide)) rfl g.bqA g.bql.kp g.bqO (.cons rfl .nil) pass0 (aqa (pv 0) (aqa (aqx (v:=gqP) rfl g.gq3 ⟨_,rfl⟩) aqb))) aqM))),?_⟩
  have eF:gqP=.str ⟨frM.toArray⟩:=by
   show V.str (Str.ofString _)=_
   unfold frM;simp
  have e1:Str.ofString "#"=⟨[35].toArray⟩:=by decide +kernel
  rw[eF,e1]
  walk_at "rd"
  cases o with
  |none=>
   have hw:w'=[]:=hw
   refine aqu ac (fq1 ac hi hl hd (by rw[hw];simp) ⟨_,rfl,?_⟩)
   rw[if_neg (by decide)]
   have e:i=t.length:=by have:=congrArg List.length hd;rw[length_drop,hw,length_nil] at this;lia
   exact k H (SameBut.refl _ _) (e▸ac)
  |some s=>
   obtain⟨v,rfl,hv⟩:=hw
   refine aqu ac (cqO (r:=v) ac hi hl hd fun H1 s1 c1 ag af=>⟨_,rfl,?_⟩)
   rw[if_pos rfl]
   refine⟨p,t,frM,s,v,[],_,none,rfl,c1,ag,hl,ad,xqX,by rw[af,append_nil],hv,.inl lqc,(fun m z=>by cases z),fun H2 s2 c2=>k H2 (s1.trans s2) ?_⟩
   have e:i+[35].length+v.length=t.length:=by have:=congrArg List.length af;rw[length_drop] at this;lia
   rw[e] at c2
   exact c2
theorem dqD (g:G K mg):FnOk P w K mg base CX0 5 g.bqp g.aqU ["cursor","free","most"] (hqS K g.aqt):=by
 refine g.bqn.ok dqE (fun vs H Q E h=>?_) (fun aj A ae s H vs Q E hr h=>?_)
 ·obtain⟨p,t,fr,s,w,r,i,mo,rfl,_⟩:=h;rfl
 ·obtain⟨p,t,fr,s,w',r,i,mo,rfl,ac,hi,hl,ad,ai,hd,hw,ag,af,ah,k⟩:=h
  refine⟨_,(aqc (aqk (i:=3) dqE.nd rfl (Or.inl rfl) (aqf (bqQ g) (hr.mono (by decide)) rfl g.bqA g.bql.kp g.kqw .nil pass0 (aqa (pv 0) (aqa (pv 1) (aqa (pv 2) aqb)))))
   (aqc (aqN (aqj bqk (pv 3) aqg (nomark _))
    (aqe hqv) aqr)
   (aqe (aql (pv 3))))),?_⟩
  walk_at "rd"
  refine⟨p,t,fr,s,w',r,i,mo,rfl,ac,hi,hl,ad,ai,hd,hw,af,ah,fun H1 s1 c1=>?_⟩
  walk_at "rd"
  rw[if_neg (fun z=>ag (jqz.mp z))]
  exact k H1 s1 c1
theorem nq0 (g:G K mg):FnOk P w K mg base CX0 5 g.eqX g.dq0 ["_law_cell","_law_names_here"] (nq8 K):=by
 refine g.hqo.ok dqY (fun vs H Q E h=>?_) (fun bu A ap s H vs Q E hr h=>?_)
 ·obtain⟨c,pn,ns,rfl,_⟩:=h;rfl
 ·obtain⟨c,pn,ns,rfl,av,bq,hn,aw,k⟩:=h
  refine⟨_,(aqc (aqk (i:=2) dqY.nd rfl (Or.inl rfl) (aqi aqJ (pv 0) aqd))
   (aqc (aqk (i:=3) dqY.nd rfl (Or.inl rfl) (aqG aqb))
   (aqE (gq1 PassesOwn.never rfl (fqk rfl g.iqr (aqa (pv 2) aqb)) (aqX (i:=4) dqY.nd rfl (Or.inl rfl))
   (aqe (cqo (cqs (K:=K) rfl PySem.F.plainAttrs_list PySem.F.slot_list_append PySem.F.type_list_append bqu (pv 3) (aqa (aqf (nqE g) (hr.mono (by decide)) rfl g.kqE g.gqW.kp g.kqg .nil pass0 (aqa (aqi aqz (pv 0) (aqi (aqB (K:=K)) aqd (aqi eqj (aqi eqj aqd (pv 4)) (pv 4)))) (aqa (aqw (aqh (K:=K) rfl) (pv 1) (pv 4) (fun _ _=>rfl)) aqb))) aqb)))))
   (aqE (aqN (PW.pt (gqu (aqj bqk (aqi aqJ (aqi aqz (pv 0) aqd) aqd) aqd (nomark _)) (eqp (aqj (mqb hr.units) (pv 3) (aqG aqb) (nomark _)))))
    (aqe (qqX (aqy (aqa aqg (aqa (aqw (aqh (K:=K) rfl) (pv 1) (aqi qq2 (pv 2) aqd) (fun _ _=>rfl)) aqb))) (Aqr (pv 3) (Aq1 Aqb aqd) vq1))) aqr)
   (aqe (aql (aqy (aqa (aq8 (cqS (K:=K) rfl) rfl g.gqM fqK (aqa (pv 3) aqb)) (aqa (rqA (aq5 (nqa hr.units) (pv 3) (aqG aqb) (nomark _)) (dqp (aq5 bqk (aqi aqJ (aqi aqz (pv 0) aqd) aqd) aqd (nomark _)))) aqb))))))))),?_⟩
  walk_at "rd"
  obtain⟨m,hm,br⟩:∃m:Nat,c % 6=(m:Int)∧m≤5:=⟨(c % 6).toNat,by lia,by lia⟩
  rw[hm]
  clear hm
  refine⟨by decide,by decide,fun p1 H1 n1 s1 bi=>?_⟩
  refine⟨fun σ H'=>Same H H'∧∃(v5:Option V) (ps:List Pc) (xs:List V),σ=[some (.int c),some (.ref pn),some (.int (m:Int)),some (.ref p1),v5]∧PcT H' ps xs∧H' p1=some (.lst xs)∧ps.length=m∧(∀x∈ps,(PcOk x∧PcSg x)∧x.isRest=false)∧NmP ns ps,⟨by lia,by lia,?_⟩,?_⟩
  ·rw[Int.toNat_natCast]
   refine fqm (fun i σ H'=>Same H H'∧∃(v5:Option V) (ps:List Pc) (xs:List V),σ=[some (.int c),some (.ref pn),some (.int (m:Int)),some (.ref p1),v5]∧PcT H' ps xs∧H' p1=some (.lst xs)∧ps.length=i∧(∀x∈ps,(PcOk x∧PcSg x)∧x.isRest=false)∧NmP ns ps) ⟨s1,none,[],[],rfl,.nil,bi,rfl,(fun x hx=>by cases hx),(fun i c h=>by simp at h)⟩ ?_ ?_
   ·rintro i σ H2 hi ⟨s2,v5,ps,xs,rfl,hP,af,ae,ac,ad⟩
    have au:=hP.length
    walk_at "rd"
    have bn:i=0∨i=1∨i=2∨i=3∨i=4:=by lia
    have hb:0 < 6+31 * (0+(i:Int)) * (0+(i:Int))∧6+31 * (0+(i:Int)) * (0+(i:Int)) < 1073741824:=by
     rcases bn with rfl|rfl|rfl|rfl|rfl <;> decide
    obtain⟨nm,ag⟩:∃z,ns[i]?=some z:=⟨_,List.getElem?_eq_getElem (by lia)⟩
    have bj:=aw nm (mem_of_getElem? ag)
    refine⟨⟨_,.of af⟩,.inl ⟨by decide,by decide⟩,.inr ⟨by lia,by lia⟩,hb,_,_,.inl (.of (s2 _ _ av)),by rw[Int.zero_add];exact aqs (by rw[List.getElem?_map,ag];rfl),_,nm,rfl,fun aj b H3 ar be aq s3 bo=>?_⟩
    have st:=gqK (ys:=xs++[.ref b]) (s3 _ _ af)
    have bd:PcSg aj:=qqf ar fun x hx=>by
     cases hst:aj.isStep with
     |true=>
      cases aj with
      |step s=>exact absurd (show x∈([]:List Nat) from hx) not_mem_nil
      |_=>cases hst
     |false=>rw[aq hst] at hx;exact bj x hx
    refine⟨_,s3 _ _ af,by rw[au];exact Nat.lt_of_le_of_lt (show ps.length≤5 by lia) (by decide),nqq (s2.trans s3) n1,_,ps++[aj],xs++[.ref b],rfl,PcT.append (.cons (st _ _ bo) .nil) ((hP.mono s3.toT).mono st),aqm,by rw[length_append,length_singleton,ae],fun y hy=>?_,ad.snoc fun h9=>by rw[ae,aq h9];exact ag⟩
    rcases mem_append.mp hy with z|z
    ·exact ac y z
    ·rw[mem_singleton.mp z];exact⟨⟨ar,bd⟩,be⟩
   ·rintro σ H2 ⟨s2,v5,ps,xs,rfl,hP,af,ae,ac,ad⟩
    exact⟨s2,v5,ps,xs,rfl,hP,af,ae,ac,ad⟩
  rintro σ H2 ⟨s2,v5,ps,xs,rfl,hP,af,ae,ac,ad⟩
  have au:=hP.length
  walk_at "rd"
  refine⟨fun σ H3=>Same H H3∧∃(ps:List Pc) (xs:List V),σ=[some (.int c),some (.ref pn),some (.int (m:Int)),some (.ref p1),v5]∧PcT H3 ps xs∧H3 p1=some (.lst xs)∧ps.length≤5∧(∀x∈ps,PcOk x∧PcSg x)∧LastR ps∧NmP ns ps,⟨⟨by decide,by decide⟩,by decide,ite2 (fun _=>⟨by decide,fun p3 H3 n3 s3 bh=>?_⟩) (fun _=>⟨s2,ps,xs,rfl,hP,af,by lia,fun x hx=>(ac x hx).1,qqw fun x hx=>(ac x hx).2,ad⟩)⟩,?_⟩
  ·have bc:=hP.mono s3.toT
   have ah:=s3 _ _ af
   refine⟨.list (ps.map pcD),.list [],.lst ah bc.isT.is,.lst bh .nil,(qqT fun c hc=>(ac c hc).1.2).shaped (by decide),by decide +kernel,_,rfl,?_⟩
   rw[jqx]
   refine ite2 (fun ao=>?_) (fun _=>⟨s2.trans s3,ps,xs,rfl,bc,ah,by lia,fun x hx=>(ac x hx).1,qqw fun x hx=>(ac x hx).2,ad⟩)
   have bf:0 < ps.length:=by
    cases ps with
    |nil=>cases ao
    |cons a b=>simp
   obtain⟨nm,ag⟩:∃z,ns[m - 1]?=some z:=⟨_,List.getElem?_eq_getElem (by lia)⟩
   refine⟨_,_,.inl (.of ((s2.trans s3) _ _ av)),by rw[show ((m:Int) - 1)=((m - 1:Nat):Int) by lia];exact aqs (by rw[List.getElem?_map,ag];rfl),by decide,fun p4 H4 n4 s4 am=>?_⟩
   have ay:=s4 _ _ ah
   have bt:p4≠p1:=fun z=>by rw[z,ay] at am;cases am
   refine⟨xs,xs.length - 1,ay,?_,?_⟩
   ·have bp:0 < xs.length:=by lia
    unfold ixN
    rw[if_neg (by lia)]
    rw[if_pos (by lia)]
    congr 1
    lia
   have ex:xs.set (xs.length - 1) (.ref p4)=xs.take (ps.length - 1)++[.ref p4]:=by
    rw[List.set_eq_take_append_cons_drop,if_pos (by lia),au,drop_eq_nil_of_le (by lia)]
   rw[ex]
   have st:=gqK (ys:=xs.take (ps.length - 1)++[.ref p4]) ay
   refine⟨nqq ((s2.trans s3).trans s4) n1,ps.take (ps.length - 1)++[.rest nm],_,rfl,PcT.append (.cons (st _ _ am) .nil) (((bc.mono s4.toT).mono st).take _),aqm,by rw[length_append,length_take,length_singleton];lia,fun x hx=>?_,rq2 fun x hx=>(ac x (mem_of_mem_take hx)).2,(ad.take _).snoc fun _=>by rw[length_take,show min (ps.length - 1) ps.length=m - 1 by lia];exact ag⟩
   rcases mem_append.mp hx with z|z
   ·exact (ac x (mem_of_mem_take z)).1
   ·rw[mem_singleton.mp z];exact⟨trivial,qqf trivial (aw nm (mem_of_getElem? ag))⟩
  clear hP af ac ad au ae s2
  clear ps xs H2
  rintro σ H3 ⟨s3,ps,xs,rfl,hP,ah,ae,ac,ax,ad⟩
  walk_at "rd"
  refine⟨_,.inl (.of ah),fun t H4 s4 ht=>⟨by decide,fun p5 H5 n5 s5 bg=>?_⟩⟩
  have ai:=s4.trans s5
  have az:=hP.mono ai.toT
  refine⟨.list (ps.map pcD),.list [],.lst (ai _ _ ah) az.isT.is,.lst bg .nil,(qqT fun c hc=>(ac c hc).2).shaped (by decide),by decide +kernel,_,rfl,?_⟩
  rw[jqx,isEmpty_map]
  refine ite2 (fun _=>⟨by decide,fun p6 H6 n6 s6 al=>?_⟩) (fun ao=>⟨⟨by decide,by decide⟩,by decide,by decide,fun p6 H6 n6 s6 al=>?_⟩)
  ·exact k ps _ p6 H6 ac ax ad ae (fun _=>rfl) ((s3.trans ai).trans s6) ⟨t,_,al,(s5.trans s6) _ _ ht,az.mono s6.toT⟩
  ·exact k ps _ p6 H6 ac ax ad ae (fun z=>absurd (by rw[z];rfl) ao) ((s3.trans ai).trans s6) ⟨t,_,al,(s5.trans s6) _ _ ht,az.mono s6.toT⟩
theorem mqj (g:G K mg):FnOk P w K mg base CX0 5 g.dqU g.dqa ["_law_pattern_here","_law_cells"] (mqt K):=by
 refine g.fqW.ok bqZ (fun vs H Q E h=>?_) (fun bq A ao s H vs Q E hr h=>?_)
 ·obtain⟨cs,e,p,pc,is,rfl,_⟩:=h;rfl
 ·obtain⟨cs,e,p,pc,is,rfl,ay,bc,bp,az,bi,bh,k⟩:=h
  refine⟨_,(aqc (aqk (i:=2) bqZ.nd rfl (Or.inl rfl) (aqG aqb))
   (aqc (gq1 PassesOwn.never rfl (qqx (K:=K) rfl rfl g.iqf (aqa (aqf (oql g) (hr.mono (by decide)) rfl g.lqO g.iqx.kp g.lq9 .nil pass0 (aqa (pv 0) aqb)) aqb)) (iql (n:=2) (K:=K) rfl rfl (bqe (aqX (i:=3) bqZ.nd rfl (Or.inl rfl)) (bqe (aqX (i:=4) bqZ.nd rfl (Or.inl rfl)) gqU)))
   (aqc (aqk (i:=5) bqZ.nd rfl (Or.inl rfl) (aqi aqz (aqw (aqh (K:=K) rfl) (pv 1) (aqi aqJ (pv 3) (aqF (aqO (K:=K) rfl) rfl g.fqn PySem.boot_len (aqa (pv 1) aqb))) (fun _ _=>rfl)) (aqi (aqB (K:=K)) (aqi aqz (pv 3) (aqF (aqO (K:=K) rfl) rfl g.fqn PySem.boot_len (aqa (pv 1) aqb))) aqd)))
   (aqe (cqo (cqs (K:=K) rfl PySem.F.plainAttrs_list PySem.F.slot_list_append PySem.F.type_list_append bqu (pv 2) (aqa (aqy (aqa (aqf (lqx g) (hr.mono (by decide)) rfl g.iqb g.fqh.kp g.hqV .nil pass0 (aqa (pv 4) aqb)) (aqa (aqf (oqc g) (hr.mono (by decide)) rfl g.kqB g.gq4.kp g.kqh .nil pass0 (aqa (pv 4) (aqa (pv 5) aqb))) aqb))) aqb))))))
   (aqe (aql (pv 2))))),?_⟩
  walk_at "rd"
  have ad:(is.map V.int).length=is.length:=length_map ..
  refine⟨by decide,fun l H1 n1 s1 hl=>⟨cs,e,p,rfl,ay.mono s1.toT,by lia,fun lg xs H2 n2 s2 aq hx=>?_⟩⟩
  obtain⟨gs,ah⟩:∃gs,gs=cs.filter fun c=>!c.isStep:=⟨_,rfl⟩
  rw[<- ah] at hx
  have bg:=hx.length
  have bj:gs.length≤12:=by have:=length_filter_le (fun c:Pc=>!c.isStep) cs;rw[<- ah] at this;lia
  have be:∀c∈gs,PcOk c∧c.isStep=false:=fun c hc=>by
   rw[ah] at hc
   obtain⟨h1,h2⟩:=mem_filter.mp hc
   exact⟨bc c h1,by simpa using h2⟩
  refine⟨lg,xs,rfl,.of aq,?_⟩
  have al:lg≠l:=fun z=>by rw[z,hl] at n2;cases n2
  refine mq2 (xs:=xs) (fun i σ H'=>H' lg=some (.lst xs)∧PcT H' gs xs∧∃(bs:List (List Nat×Vl)) (ys:List V) (v3 v4 v5:Option V),σ=[some (.ref p),some (.ref pc),some (.ref l),v3,v4,v5]∧GvA (gs.take i) bs∧FrB H H' ys∧Same H H'∧H' l=some (.lst ys)∧BndV H' l bs ys∧bs.length=i∧∀b∈bs,SmV b.2) ⟨aq,hx,[],[],none,none,none,rfl,.nil,(show FrB H H2 [] from fun v hv=>by cases hv),s1.trans s2,s2 _ _ hl,.nil,rfl,(fun b hb=>by cases hb)⟩ (fun i σ H' _ h=>.of h.1) ?_ ?_
  rotate_left
  ·rintro σ H3 ⟨af,ai,bs,ys,v3,v4,v5,rfl,hG,hF,s3,ag,hB,au,aj⟩
   walk_at "rd"
   rw[bg,take_length,ah] at hG
   exact k bs l ys H3 hG.whole aj n1 hF s3 ag hB
  rintro i v σ H3 T hv ⟨af,ai,bs,ys,v3,v4,v5,rfl,hG,hF,s3,ag,hB,au,aj⟩ hT
  obtain⟨c,b,hc,rfl,hb⟩:=ai.get hv
  have hi:i < gs.length:=(List.getElem?_eq_some_iff.mp hc).1
  obtain⟨co,am⟩:=be c (mem_of_getElem? hc)
  have sT:Same H3 (upd H3 T (.tup [.int (i:Int),.ref b])):=bqc hT
  walk_at "rd"
  refine⟨T,_,rfl,.of aqm,rfl,_,_,rfl,_,_,rfl,rfl,?_⟩
  generalize upd H3 T (.tup [.int (i:Int),.ref b])=H4 at sT
  have u4:=s3.trans sT
  have ae:=u4.seq az
  walk_at "rd"
  obtain⟨j,hj,ej⟩:∃j:Nat,j < is.length∧(i:Int) % (is.length:Int)=(j:Int):=by
   have h1:=Int.emod_nonneg (i:Int) (show (is.length:Int)≠0 by lia)
   have h2:=Int.emod_lt_of_pos (i:Int) (show 0 < (is.length:Int) by lia)
   exact⟨((i:Int) % (is.length:Int)).toNat,by lia,by lia⟩
  have bo:0≤(i:Int) / (is.length:Int):=Int.ediv_nonneg (by lia) (by lia)
  have bn:(i:Int) / (is.length:Int)≤(i:Int):=Int.ediv_le_self _ (by lia)
  refine⟨_,.inl ae,?_⟩
  rw[ad]
  refine⟨by lia,_,.int is[j],.inl ae,by rw[ej];exact aqs (by rw[List.getElem?_map,List.getElem?_eq_getElem hj];rfl),_,.inl ae,?_⟩
  rw[ad]
  refine⟨⟨by lia,by lia⟩,rd_I.mpr ⟨⟨by lia,by lia⟩,?_⟩⟩
  generalize is[j] / ((i:Int) / (is.length:Int)+1)=cc
  have bd:=sT _ _ ag
  have bf:=sT _ _ hb
  have hyl:=hB.length
  refine⟨⟨_,.of bd⟩,c,b,rfl,.of bf,am,c,b,cc,rfl,bf,co,am,fun x v H5 hg ax s5 aw ap=>⟨by decide,fun p6 H6 n6 s6 e6=>?_⟩⟩
  have ac:=(sT.trans s5).trans s6
  have ar:=ac _ _ ag
  have av:∀q,v=.ref q->q≠l:=fun q z w=>by
   have:=ap q z
   rw[w,bd] at this
   cases this
  have sL:=gqK (ys:=ys++[.ref p6]) ar
  refine⟨ys,ar,Nat.lt_of_le_of_lt (show ys.length≤12 by lia) (by decide),by rw[aqp al];exact ac _ _ af,(ai.mono ac.toT).mono sL,bs++[(c.name,x)],ys++[.ref p6],_,_,_,⟨rfl,rfl,rfl⟩,?_,((hF.mono ac.toT).snoc e6 fun q z=>oqT u4 (ap q z)).mono sL,jqA n1 (s3.trans ac),aqm,((hB.mono ac).snoc e6 (aw.mono s6) av).upd ar,by rw[length_append,length_singleton,au],fun z hz=>?_⟩
  ·rw[take_add_one,hc]
   exact hG.snoc am hg
  ·rcases mem_append.mp hz with y|y
   ·exact aj z y
   ·rw[mem_singleton.mp y];exact ax
theorem kqG (g:G K mg):FnOk P w K mg base (CXN P w base) 6 g.dqi g.cqM ["piece","values"] (kqK K g.aqK):=by
 refine g.fqi.okn gqX (fun vs H Q E h=>?_) (fun ap A ai s H vs Q E hr h=>?_)
 ·obtain⟨c,p,pz,ws,ys,rfl,_⟩:=h;rfl
 ·obtain⟨c,p,pz,ws,ys,rfl,hp,hh,ht,al,hw,ao,am,kQ,kE⟩:=h
  refine⟨_,(aqc (aqN (dqm (bqb (aqf (pqB g) (hr.mono (by decide)) rfl g.nq1 g.kq3.kp g.nqo .nil pass0 (aqa (pv 0) aqb))))
    (aqe (aql (aqG (aqa (aqw (aqh (K:=K) rfl) (pv 0) aqd (fun _ _=>rfl)) aqb)))) aqr)
   (aqc (uqI (i:=2) (K:=K) (fx:=["piece"]) (fr:=[0]) gqX.nd rfl rfl rfl rfl rfl (by decide +kernel) rfl (by decide +kernel) rfl rfl (by decide +kernel) rfl (.cons rfl rfl rfl rfl .nil) rfl (kq4 (K:=K) rfl (pv 1)) (fun _ _ _=>(sqX (aqj bqk (pv 0) (aqf (jqN g) (hr.mono (by decide)) rfl g.iqS g.gq7.kp g.jqu .nil pass0 (aqa (pv 2) aqb)) (nomark _)))) (fun _ _ _=>(pv 1)))
   (aqc (aqN (PW.pt (kqO (aqj lqi (aqF (aqO (K:=K) rfl) rfl g.fqn PySem.boot_len (aqa (pv 2) aqb)) aqd (nomark _)) (iqV (dqm (bqb (aqf (pqW g) (hr.mono (by decide)) rfl g.mq0 g.jq5.kp g.mqR .nil pass0 (aqa (pv 0) (aqa (aqw (aqh (K:=K) rfl) (pv 2) aqd (fun _ _=>rfl)) aqb))))))))
    (aqe (oq7 mqG rfl g.jqq g.lqC (eqw g) (hr.mono (by decide)) g.cqB rfl pass0 rfl (aqa (aqf (jqN g) (hr.mono (by decide)) rfl g.iqS g.gq7.kp g.jqu .nil pass0 (aqa (pv 0) aqb)) aqb))) aqr)
   (aqe (aql (aqf (jqZ g) (hr.mono (by decide)) rfl g.gqt g.dqw.kp g.gqm .nil pass0 (aqa (pv 0) (aqa (aqw (aqh (K:=K) rfl) (pv 2) aqd (fun _ _=>rfl)) aqb)))))))),?_⟩
  walk_at "rd"
  refine⟨c,p,rfl,hp,_,rfl,?_⟩
  cases hst:c.isStep with
  |true=>
   refine ite2 (fun _=>?_) (fun z=>absurd rfl z)
   cases c with
   |step s=>exact⟨_,_,.inr hp,aqs (j:=1) rfl,by decide,fun p1 H1 n1 s1 af=>kQ [s] rfl p1 H1 s1 af⟩
   |_=>cases hst
  |false=>
   refine ite2 (fun z=>absurd z (by decide)) (fun _=>?_)
   have hyl:=hw.length
   rw[lqL hst] at kQ kE
   refine⟨⟨_,.of al⟩,fun p0 n0=>?_⟩
   refine pqH (fun i=>prAt H ys i) (fun i=>decide ((ws[i]?.map (·.1))=some c.name)) (fun i=>(prAt H ys i).2) (.of al) (aqq (by lia)) n0 (fun i x H1 hx s1=>?_) (fun i hi H1 R s1 hR=>?_) (fun i hi ht H1 T s1 hT=>?_) (fun H1 s1 af=>?_)
   ·obtain⟨n,d,b,v,h1,rfl,h3,h4⟩:=hw.get hx
    rw[qqd hx h3]
    exact⟨b,rfl,.of (s1 _ _ h3)⟩
   ·have hx:ys[i]?=some ys[i]:=List.getElem?_eq_getElem hi
    obtain⟨n,d,b,v,h1,h2,h3,h4⟩:=hw.get hx
    rw[h2] at hx
    rw[qqd hx h3]
    have:=hR H1 (Same.refl _)
    rw[h1] at this
    walk_at "rd"
    refine⟨c,p,rfl,s1.tup hp,hst,aq0.mpr ⟨_,rfl,?_⟩⟩
    have e:decide ((⟨n.toArray⟩:Str)=⟨c.name.toArray⟩)=decide ((some (n,d)).map (·.1)=some c.name):=by
     rw[decide_eq_decide,dqC]
     exact⟨fun z=>by rw[z];rfl,fun z=>Option.some.inj z⟩
    rw[e]
    exact this
   ·walk_at "rd"
    exact hT H1 (Same.refl _)
   have ad:=qqe hw c.name (fun i=>(prAt H ys i).2) (fun i m d q v h1 h2 h3=>by rw[qqd h2 h3])
   have ag:H1 p0=some (.lst (((List.range ys.length).filter fun i=>decide ((ws[i]?.map (·.1))=some c.name)).map fun i=>(prAt H ys i).2)):=af
   generalize (((List.range ys.length).filter fun i=>decide ((ws[i]?.map (·.1))=some c.name)).map fun i=>(prAt H ys i).2)=ls at ad ag
   clear af
   have aj:∀d∈named ws c.name,smallD d=true:=fun d hd=>by
    obtain⟨q,hq,rfl⟩:=mem_map.mp hd
    exact am q (mem_filter.mp hq).1
   have ae:=ad.length
   have ac:(match named ws c.name with|[d]=>if isValD c d=true then (.ok (stpsD c d):Except (List Nat) (List (List Nat))) else .error c.name|_=>.error c.name)=.error c.name->∀H2,Same H H2->mqH K [V.ref p] H2 (fun x H1=>∀(a:Addr),H1 a=none->cqm K g.aqK [V.ref a,x] (upd H1 a (exNew a g.aqK)) (fun v H2=>v=V.non∧∃d,H2 a=some (exSet a g.aqK d)∧E (Value.ref g.aqK) (some d) (forget H2 a)) E0) E0:=fun he H2 s2=>
    ⟨c,p,rfl,s2.tup hp,hst,mq7 fun d H3 s3 hd=>kE c.name he d H3 (s2.trans s3) hd⟩
   refine sqY.mpr ⟨ls,.inl (.of ag),uqx.mpr ⟨_,rfl,?_⟩⟩
   cases hn:named ws c.name with
   |nil=>
    rw[hn] at ac ae
    refine ite2 (fun _=>ac rfl H1 s1) (fun z=>?_)
    exact absurd (by rw[<- ae];decide) z
   |cons d r=>
    cases r with
    |cons d2 r2=>
     rw[hn] at ac ae
     refine ite2 (fun _=>ac rfl H1 s1) (fun z=>?_)
     refine absurd ?_ z
     rw[<- ae]
     simp only[length_cons]
     simp
     lia
    |nil=>
     rw[hn] at ac ae kQ kE ad aj
     refine ite2 (fun z=>?_) (fun _=>?_)
     ·exact absurd z (by rw[<- ae];simp)
     have hd:smallD d=true:=aj d (mem_singleton.mpr rfl)
     obtain⟨u,rfl,hu⟩:∃u,ls=[u]∧Is H d u:=by
      cases ad with
      |cons h r=>cases r;exact⟨_,rfl,h⟩
     refine uqt.mpr ⟨_,u,.inl (.of ag),rfl,c,p,d,u,rfl,s1.tup hp,hst,hh,ht,hu.mono s1,hd,fun H2 s2=>⟨_,rfl,?_⟩⟩
     have ah:=s1.trans s2
     refine ite2 (fun hv=>ac ?_ H2 ah) (fun hv=>?_)
     ·exact if_neg (by rw[hv];decide)
     ·have hv:isValD c d=true:=by simpa using hv
      refine uqt.mpr ⟨_,u,.inl (.of (s2 _ _ ag)),rfl,c,p,d,u,rfl,ah.tup hp,hst,hh,ht,hu.mono ah,hd,hv,fun q H3 s3 hq=>kQ (stpsD c d) (if_pos hv) q H3 (ah.trans s3) hq⟩
theorem mqe (g:G K mg):FnOk P w K mg base CX0 6 g.dqI g.cq5 ["cursor"] (mqo K g.aqt):=by
 refine g.fqF.ok mqz (fun vs H Q E h=>?_) (fun al A ae s H vs Q E hr h=>?_)
 ·obtain⟨p,t,w,r,i,o,rfl,_⟩:=h;rfl
 ·obtain⟨p,t,w',r,i,o,rfl,ac,hi,hl,ad,hd,hw,af,hh,k⟩:=h
  refine⟨_,(aqc (aqN (dqm (bqb (cqz (pv 0) g.aqo g.aqC (aqI g) (hr.mono (by decide)) g.aqH .nil pass0 (aqa aqg aqb))))
    (aqe (aql aqM)) aqr)
   (aqe (aql (aqf (dqD g) (hr.mono (by decide)) rfl g.cqn g.bqn.kp g.eqn .nil pass0 (aqa (pv 0) (aqa aqg (aqa (aqx (v:=lqz) rfl g.gqN ⟨_,rfl⟩) aqb))))))),?_⟩
  have e1:Str.ofString "//"=⟨[47,47].toArray⟩:=by decide +kernel
  rw[e1]
  walk_at "rd"
  cases o with
  |none=>
   have hw:w'=[]:=hw
   subst hw
   refine aqu ac (pqL ac hi hl (by rw[hd];exact hh rfl) ⟨_,rfl,?_⟩)
   rw[if_pos rfl]
   exact k H (SameBut.refl _ _) ac
  |some s=>
   obtain⟨v,rfl,hv,ah,ag⟩:=hw
   refine aqu ac (cqO (w:=[47,47]) (r:=v++r) ac hi hl hd fun H1 s1 c1 ai aj=>⟨_,rfl,?_⟩)
   rw[if_neg (by decide)]
   refine⟨p,t,[],s,v,r,_,some 60,rfl,c1,ai,hl,ad,by decide,aj,hv,ah,.inl (af (by simp)),(fun m z=>by cases z;exact ag),fun H2 s2 c2=>k H2 (s1.trans s2) ?_⟩
   rw[length_cons,length_cons,show i+(v.length+1+1)=i+[47,47].length+v.length by simp only[length_cons,length_nil];lia]
   exact c2
theorem jq8 (g:G K mg):FnOk P w K mg base CX0 6 g.bq9 g.bqM ["cursor"] (jqW K g.aqt):=by
 refine g.dqu.ok bqS (fun vs H Q E h=>?_) (fun bu A bf s H vs Q E hr h=>?_)
 ·obtain⟨p,t,w,ac,i,qs,rfl,_⟩:=h;rfl
 ·obtain⟨p,t,w',ac,i,qs,rfl,ad,hi,hl,ae,hd,hw,ao,k⟩:=h
  refine⟨_,(aqc (aqN (dqm (bqb (cqz (pv 0) g.aqo g.aqC (aqI g) (hr.mono (by decide)) g.aqH .nil pass0 (aqa aqg aqb))))
    (aqe (aql aqM)) aqr)
   (aqc (aqk (i:=1) bqS.nd rfl (Or.inl rfl) (aqf (dvs:=[.non]) (bqQ g) (hr.mono (by decide)) rfl g.bqA g.bql.kp g.bqO (.cons rfl .nil) pass0 (aqa (pv 0) (aqa (aqx (v:=aq2) rfl g.bqq ⟨_,rfl⟩) aqb))))
   (aqE (aqN (aqj bqk (pv 1) aqg (nomark _))
    (aqe (aql (aqy aqb))) aqr)
   (aqE (aqk (i:=2) bqS.nd rfl (Or.inl rfl) (aqG (aqa (aqy (aqa (pv 1) (aqa (aqf (hqY g) (hr.mono (by decide)) rfl g.fqA g.dqR.kp g.fq3 .nil pass0 (aqa (pv 0) aqb)) aqb))) aqb)))
   (aqc (kqV PassesOwn.never (bqb (cqz (pv 0) g.aqo g.aqC (aqI g) (hr.mono (by decide)) g.aqH .nil pass0 (aqa aqg aqb)))
   (aqc (aqk (i:=1) bqS.nd rfl (Or.inl rfl) (aqf (dvs:=[.non]) (dqD g) (hr.mono (by decide)) rfl g.cqn g.bqn.kp g.dqF (.cons rfl .nil) pass0 (aqa (pv 0) (aqa (aqx (v:=aq2) rfl g.bqq ⟨_,rfl⟩) aqb))))
   (aqe (cqo (cqs (K:=K) rfl PySem.F.plainAttrs_list PySem.F.slot_list_append PySem.F.type_list_append bqu (pv 2) (aqa (aqy (aqa (pv 1) (aqa (aqf (hqY g) (hr.mono (by decide)) rfl g.fqA g.dqR.kp g.fq3 .nil pass0 (aqa (pv 0) aqb)) aqb))) aqb))))))
   (aqe (aql (aq8 (cqS (K:=K) rfl) rfl g.gqM fqK (aqa (pv 2) aqb))))))))),?_⟩
  have eF:aq2=.str ⟨frQ.toArray⟩:=by
   show V.str (Str.ofString _)=_
   unfold frQ;simp
  have e1:Str.ofString "?"=⟨[63].toArray⟩:=by decide +kernel
  have e2:Str.ofString "&"=⟨[38].toArray⟩:=by decide +kernel
  rw[eF,e1,e2]
  have rl:∀{am:Nat}{v'':List Nat},t.drop am=v''++ac->am≤t.length->am+v''.length=t.length - ac.length:=fun {am v''} h hj=>by
   have:=congrArg List.length h
   rw[length_drop,length_append] at this
   lia
  have ai:ac.head?≠some 63∧ac.head?≠some 38:=by
   rcases ao with rfl|⟨x,rfl⟩
   ·exact⟨by simp,by simp⟩
   ·exact⟨by simp,by simp⟩
  walk_at "rd"
  cases qs with
  |none=>
   have hw:w'=[]:=hw
   subst hw
   refine aqu ad (fq1 ad hi hl hd ai.1 ⟨_,rfl,?_⟩)
   rw[if_pos rfl]
   have:=rl hd hi
   exact k _ H (SameBut.refl _ _) (this▸ad) .non
  |some ps=>
   cases ps with
   |nil=>
    have hw:w'=[63]:=hw
    subst hw
    refine aqu ad (cqO (w:=[63]) (r:=ac) ad hi hl hd fun H1 s1 c1 ar ag=>⟨_,rfl,?_⟩)
    rw[if_neg (by decide)]
    refine⟨p,t,frQ,[],[],ac,_,none,rfl,c1,ar,hl,ae,nqF,ag,.nil,.inl (lqM .nil ao).1,(fun m z=>by cases z),fun H2 s2 c2=>?_⟩
    refine⟨fun _ _=>False,?_,fun _ _ z=>z.elim⟩
    rw[L2.aq0,decide_eq_true rfl]
    refine⟨_,rfl,?_⟩
    rw[if_pos rfl]
    have:=rl (v'':=[]) ag ar
    exact⟨by decide,fun pt Ha n1 sa aj=>k _ Ha ((s1.trans s2).trans sa.but) (this▸c2.same sa) (.tup aj .nil)⟩
   |cons pr ps=>
    obtain⟨n,o⟩:=pr
    obtain⟨a,v,r,rfl,ha,hn,hv,aw⟩:=hw
    have bg:=lqM aw ao
    refine aqu ad (cqO (w:=[63]) (r:=a++(v++(r++ac))) ad hi hl (by rw[hd];simp) fun H1 s1 c1 ar ag=>⟨_,rfl,?_⟩)
    rw[if_neg (by decide)]
    refine⟨p,t,frQ,n,a,v++(r++ac),_,none,rfl,c1,ar,hl,ae,nqF,ag,ha,.inl (oqz hv bg.1),(fun m z=>by cases z),fun H2 s2 c2=>?_⟩
    refine⟨fun σ H'=>H'=H2∧σ=[some (.ref p),some (.str ⟨n.toArray⟩),none],?_,?_⟩
    ·rw[L2.aq0]
     refine⟨_,rfl,?_⟩
     rw[if_neg (by rw[decide_eq_false (fun z=>hn (jqz.mp z))];decide)]
     exact⟨rfl,rfl⟩
    rintro σ H' ⟨rfl,rfl⟩
    have bp:i+[63].length+a.length≤t.length:=by
     have:=congrArg List.length ag
     rw[length_drop,length_append] at this
     lia
    have bc:t.drop (i+[63].length+a.length)=v++(r++ac):=by rw[<- drop_drop,ag,drop_left]
    have br:=s1.trans s2
    walk_at "rd"
    obtain⟨W,hW⟩:∃W:Nat->St->Hp->Prop,W=fun m σ H4=>∃(dn al:List (List Nat×Option (List Nat))) (r':List Nat) (j:Nat) (q:Addr) (v1:Option V) (vs:List V),m=al.length∧σ=[some (.ref p),v1,some (.ref q)]∧(n,o)::ps=dn++al∧PrsW al r'∧Cur H4 g.aqt p t j∧j≤t.length∧t.drop j=r'++ac∧H4 q=some (.lst vs)∧PrL H4 vs dn∧SameBut p H H4∧H q=none∧q≠p:=⟨_,rfl⟩
    refine⟨fun σ H4=>∃m,W m σ H4,?_,?_⟩
    ·refine⟨p,t,v,r++ac,_,o,rfl,c2,bp,hl,ae,bc,hv,bg.1,bg.2,fun H3 s3 c3=>⟨by decide,fun p1 Ha n1 sa aj=>⟨by decide,fun q Hb nq sb hq=>⟨ps.length,?_⟩⟩⟩⟩
     rw[hW]
     have af:q≠p:=by obtain⟨dx,hp⟩:=c3.same sa;exact (aqn hp nq).symm
     have bd:SameBut p H Ha:=(br.trans s3).trans sa.but
     refine⟨[(n,o)],ps,r,_,q,_,_,rfl,rfl,rfl,aw,(c3.same sa).same sb,?_,?_,hq,⟨rfl,fun i' a' y z1 z2=>?_⟩,bd.trans sb.but,bd.free nq af,af⟩
     ·have:=congrArg List.length bc
      rw[length_drop,length_append] at this
      lia
     ·rw[<- drop_drop,bc,drop_left]
     ·cases i' with
      |zero=>
       cases z1
       cases z2
       exact .tup (sb _ _ aj) (.cons (.str _) (.cons (uqw _) .nil))
      |succ j=>cases z1
    rintro σ H4 ⟨m,hm⟩
    unfold L2.Later
    rw[L2.sqC]
    refine nq4 W m hm ?_
    rintro m σ H5 hm
    rw[hW] at hm
    obtain⟨dn,al,r',j,q,v1,vs,rfl,rfl,au,av,c5,ax,az,ap,aq,be,bh,af⟩:=hm
    have bq:dn.length≤100000:=by
     have h1:=congrArg List.length au
     rw[length_append,length_cons] at h1
     have h2:=xqY aw
     have h3:=congrArg List.length hd
     rw[length_drop] at h3
     simp only[length_cons,length_append] at h3
     lia
    walk_at "rd"
    cases av with
    |nil=>
     refine aqu c5 (fq1 c5 ax hl az ai.2 ⟨_,rfl,?_⟩)
     rw[if_neg (by decide)]
     rw[append_nil] at au
     refine⟨vs,.inl (.of ap),fun l Ha sa bn=>?_⟩
     have:=rl (v'':=[]) az ax
     refine k _ Ha (be.trans sa.but) (this▸c5.same sa) ?_
     rw[au]
     exact .tup bn (mq5 (g:=pD) aq.1 fun i' a' y z1 z2=>(aq.2 i' a' y z1 z2).mono sa.toT)
    |cons hwn hne hv2 hps2=>
     rename_i n2 w2 v2 o2 ps2 r2
     have ah:=lqM hps2 ao
     refine aqu c5 (cqO (w:=[38]) (r:=w2++(v2++(r2++ac))) c5 ax hl (by rw[az];simp) fun H6 s6 c6 bo ay=>⟨_,rfl,?_⟩)
     rw[if_pos rfl]
     have bi:t.drop (j+[38].length+w2.length)=v2++(r2++ac):=by rw[<- drop_drop,ay,drop_left]
     have bt:=congrArg List.length ay
     rw[length_drop,length_append,length_append] at bt
     refine⟨_,fun _ _ h=>h,p,t,frQ,n2,w2,v2++(r2++ac),_,none,rfl,c6,bo,hl,ae,nqF,ay,hwn,hne,.inl (oqz hv2 ah.1),(fun m z=>by cases z),fun H7 s7 c7=>⟨⟨_,.of ((s6.trans s7) _ _ af ap)⟩,p,t,v2,r2++ac,_,o2,rfl,c7,by lia,hl,ae,bi,hv2,ah.1,ah.2,fun H8 s8 c8=>⟨by decide,fun p1 Ha n1 sa aj=>⟨vs,sa _ _ (((s6.trans s7).trans s8) _ _ af ap),?_,ps2.length,Nat.lt_succ_self _,?_⟩⟩⟩⟩
     ·rw[aq.1]
      exact Nat.lt_of_le_of_lt bq (by decide)
     rw[hW]
     have bj:Ha q=some (.lst vs):=sa _ _ (((s6.trans s7).trans s8) _ _ af ap)
     refine⟨dn++[(n2,o2)],ps2,r2,j+[38].length+w2.length+v2.length,q,_,_,rfl,rfl,by rw[au,append_assoc];rfl,hps2,?_,?_,?_,aqm,?_,?_,bh,af⟩
     ·obtain⟨dx,hp⟩:=c8.same sa
      exact⟨dx,by rw[aqp af.symm];exact hp⟩
     ·lia
     ·rw[<- drop_drop,bi,drop_left]
     ·refine PrL.mono (PrL.snoc ((((aq.mono (c5.toT s6)).mono (c6.toT s7)).mono (c7.toT s8)).mono sa.toT) ?_) (gqK bj)
      exact .tup aj (.cons (.str _) (.cons (uqw _) .nil))
     ·exact ((((be.trans s6).trans s7).trans s8).trans sa.but).upd bh
theorem oqe (g:G K mg):FnOk P w K mg base CX0 6 g.eqR g.dqW ["_law_script","_law_names_here","_law_labels","_law_first","_law_many"] (nqs K):=by
 refine g.hqi.ok aqP (fun vs H Q E h=>?_) (fun cx A bq s H vs Q E hr h=>?_)
 ·obtain⟨a,pn,pl,ns,nm,lb,m,rfl,_⟩:=h;rfl
 ·obtain⟨a,pn,pl,ns,nm,lb,m,rfl,hS,br,cq,bt,b7,cv,ca,hm,k⟩:=h
  refine⟨_,(aqc (aqk (i:=5) aqP.nd rfl (Or.inl rfl) (aqG aqb))
   (aqc (gq1 PassesOwn.never rfl (fqk rfl g.iqr (aqa (pv 4) aqb)) (aqX (i:=6) aqP.nd rfl (Or.inl rfl))
   (aqc (aqk (i:=7) aqP.nd rfl (Or.inl rfl) (aqf (bqg g) (hr.mono (by decide)) rfl g.bqa g.aqY.kp g.aq9 .nil pass0 (aqa (pv 0) (aqa (aqi (aqB (K:=K)) (pv 3) (pv 6)) aqb))))
   (aqE (aqk (i:=8) aqP.nd rfl (Or.inl rfl) (aqf (nq0 g) (hr.mono (by decide)) rfl g.jq9 g.hqo.kp g.kqf .nil pass0 (aqa (aqi aqz (pv 7) aqd) (aqa (pv 1) aqb))))
   (aqE (aqN (PW.pt (gqu (aqj bqk (aqi aqJ (pv 7) aqd) aqd (nomark _)) (eqp (aqj (mqb hr.units) (pv 5) (aqG aqb) (nomark _)))))
    (aqe (aqk (i:=8) aqP.nd rfl (Or.inl rfl) (aqw (aqh (K:=K) rfl) (aqw (aqh (K:=K) rfl) (pv 5) (aqi aqJ (aqi aqz (pv 7) aqd) (aqF (aqO (K:=K) rfl) rfl g.fqn PySem.boot_len (aqa (pv 5) aqb))) (fun _ _=>rfl)) aqd (fun _ _=>rfl)))) aqr)
   (aqE (aqN (PW.pt (gqu (aqj bqk (aqi aqJ (pv 7) aqd) aqd (nomark _)) (eqp (aqj (mqb hr.units) (pv 5) (aqG aqb) (nomark _)))))
    (aqc (qqX (aqw (aqh (K:=K) rfl) (aqw (aqh (K:=K) rfl) (pv 5) (aqi aqJ (aqi aqz (pv 7) aqd) (aqF (aqO (K:=K) rfl) rfl g.fqn PySem.boot_len (aqa (pv 5) aqb))) (fun _ _=>rfl)) aqd (fun _ _=>rfl)) (iql (n:=2) (K:=K) rfl rfl (bqe (aqX (i:=9) aqP.nd rfl (Or.inl rfl)) (bqe (aqX (i:=10) aqP.nd rfl (Or.inl rfl)) gqU))))
   (aqc (aqk (i:=11) aqP.nd rfl (Or.inl rfl) (aqi aqJ (aqi aqz (pv 7) aqd) (aqi (aqB (K:=K)) (aqF (aqO (K:=K) rfl) rfl g.fqn PySem.boot_len (aqa (pv 9) aqb)) aqd)))
   (aqe (aqN (PW.pt (gqu (aqj qqh (pv 11) (aqF (aqO (K:=K) rfl) rfl g.fqn PySem.boot_len (aqa (pv 9) aqb)) (nomark _)) (eqp (aqj lqi (aqw (aqh (K:=K) rfl) (aqw (aqh (K:=K) rfl) (pv 9) (pv 11) (fun _ _=>rfl)) aqd (fun _ _=>rfl)) aqg (nomark _)))))
    (aqe (aqk (i:=8) aqP.nd rfl (Or.inl rfl) (aqy (aqa (aqi (aqB (K:=K)) (aqi (aqB (K:=K)) (cq4 lqG (pv 9) iqh (cqR (pv 11))) (aqy (aqa (aqy (aqa aqg (aqa (aqw (aqh (K:=K) rfl) (pv 1) (pv 11) (fun _ _=>rfl)) aqb))) aqb))) (cq4 lqG (pv 9) (cqR (aqi (aqB (K:=K)) (pv 11) aqd)) iqh)) (aqa (pv 10) aqb))))) aqr)))) aqr)
   (aqe (cqo (cqs (K:=K) rfl PySem.F.plainAttrs_list PySem.F.slot_list_append PySem.F.type_list_append bqu (pv 5) (aqa (aqy (aqa (aqw (aqh (K:=K) rfl) (pv 2) (pv 6) (fun _ _=>rfl)) (aqa (pv 8) aqb))) aqb)))))))))
   (aqe (aql (pv 5))))),?_⟩
  walk_at "rd"
  refine⟨by decide,fun l H1 n1 s1 hl=>⟨by lia,by lia,?_⟩⟩
  rw[Int.toNat_natCast]
  refine fqm (fun i σ H'=>Same H H'∧∃(T:List Rw) (ws:List V) (v6 v7 v8 v9 bd bc:Option V),σ=[some (.ref a),some (.ref pn),some (.ref pl),some (.int 3),some (.int (m:Int)),some (.ref l),v6,v7,v8,v9,bd,bc]∧H' l=some (.lst ws)∧TbV H' T ws∧TabOk T∧T.length=i∧(∀t∈T,NmP nm t.2.1)∧T.map (·.1)=lb.take i∧(∀t∈T,t.2.1=[]->t.2.2=true)) ⟨s1,[],[],none,none,none,none,none,none,rfl,hl,.nil,(show TabOk [] from fun t ht=>by cases ht),rfl,(fun t ht=>by cases ht),rfl,(fun t ht=>by cases ht)⟩ ?_ ?_
  rotate_left
  ·rintro σ H2 ⟨s2,T,ws,v6,v7,v8,v9,bd,bc,rfl,aj,hT,au,bg,ay,bh,az⟩
   walk_at "rd"
   exact k T ws l H2 n1 s2 aj hT au bg ay bh az
  rintro i σ H2 hi ⟨s2,T,ws,v6,v7,v8,v9,bd,bc,rfl,aj,hT,au,bg,ay,bh,az⟩
  have cn:=hT.length
  walk_at "rd"
  obtain⟨C,hC⟩:∃C:Int->St->Hp->Prop,C=fun c σ H3=>Same H2 H3∧∃(cs:List Pc) (e:Bool) (p:Addr) (w9 aq ap:Option V),σ=[some (.ref a),some (.ref pn),some (.ref pl),some (.int 3),some (.int (m:Int)),some (.ref l),some (.int (0+(i:Int))),some (.int c),some (.ref p),w9,aq,ap]∧PtAt H3 cs e p∧PcsOk cs∧LastR cs∧cs.length≤5∧NmP nm cs∧(cs=[]->e=true):=⟨_,rfl⟩
  refine⟨a,ns,3+i,by rw[show (3:Int)+(0+(i:Int))=((3+i:Nat):Int) by lia],s2.seq hS,?_⟩
  generalize ns.getD (3+i) 0=c
  walk_at "rd"
  refine⟨C c,⟨⟨by decide,by decide⟩,c / 4,pn,nm,rfl,s2 _ _ br,by lia,by lia,bt,fun ps e p H3 h1 h2 h9 h3 he s3 h4=>?_⟩,?_⟩
  ·rw[hC]
   exact⟨s3,ps,e,p,_,_,_,rfl,h4,⟨by lia,h1⟩,h2,h3,h9,he⟩
  have bp:∀{H3:Hp},Same H2 H3->(0:Int) < (ws.length:Int)->∀z:Int,∃(v:V) (t:Rw),atI ws (z % (ws.length:Int))=some v∧RwAt H3 t v∧t∈T:=fun {H3} s3 h0 z=>by
   obtain⟨j,hj,ej⟩:∃j:Nat,j < ws.length∧z % (ws.length:Int)=(j:Int):=by
    have h1:=Int.emod_nonneg z (show (ws.length:Int)≠0 by lia)
    have h2:=Int.emod_lt_of_pos z h0
    exact⟨(z % (ws.length:Int)).toNat,by lia,by lia⟩
   obtain⟨w,hw⟩:∃w,ws[j]?=some w:=⟨_,List.getElem?_eq_getElem hj⟩
   obtain⟨t,ht,hr⟩:=hT.get hw
   exact⟨w,t,by rw[ej];exact aqs hw,hr.mono s3.toT,mem_of_getElem? ht⟩
  have al:∀{H3:Hp}{p5:Addr},Same H2 H3->H3 p5=some (.lst [])->∀R:VK,((0:Int) < (ws.length:Int)->R (.bl true) H3)->R (.bl false) H3->rNeD (.ref l) (.ref p5) H3 R:=fun {H3 p5} s3 e5 R r1 r2=>by
   refine⟨.list (T.map rwD),.list [],.lst (s3 _ _ aj) (hT.mono s3.toT).isAll,.lst e5 .nil,tqr au,by decide +kernel,?_⟩
   rw[jqx,isEmpty_map]
   cases T with
   |nil=>exact r2
   |cons t T=>exact r1 (by rw[cn,length_cons];lia)
  rw[hC]
  rintro σ H3 ⟨s3,cs,e,p,w9,aq,ap,rfl,ad,ag,af,ah,ae,ai⟩
  walk_at "rd"
  refine⟨C c,⟨by decide,ite2 (fun _=>⟨by decide,fun p5 H5 n5 s5 e5=>?_⟩) (fun _=>?_)⟩,?_⟩
  ·have ac:=s3.trans s5
   refine al ac e5 _ (fun h0=>⟨_,rfl,ite2 (fun _=>⟨⟨by decide,by decide⟩,_,.inl (.of (ac _ _ aj)),h0,?_⟩) (fun z=>absurd rfl z)⟩) ⟨_,rfl,ite2 (fun z=>by cases z) (fun _=>by rw[hC];exact⟨ac,cs,e,p,_,_,_,rfl,ad.mono s5.toT,ag,af,ah,ae,ai⟩)⟩
   obtain⟨v,t,hv,⟨a',p',rfl,bf,am⟩,ar⟩:=bp ac h0 (c / 4)
   obtain⟨t1,t2,t3,t4⟩:=au t ar
   refine⟨_,_,.inl (.of (ac _ _ aj)),hv,?_⟩
   walk_at "rd"
   refine⟨_,_,.inr (.of bf),aqs (j:=1) rfl,?_⟩
   rw[hC]
   exact⟨ac,t.2.1,t.2.2,p',_,_,_,rfl,am,t2,t3,t4,ay t ar,az t ar⟩
  ·rw[hC]
   exact⟨s3,cs,e,p,_,_,_,rfl,ad,ag,af,ah,ae,ai⟩
  clear ad ag af ah ae ai s3 cs e p w9 aq ap H3
  rw[hC]
  rintro σ H3 ⟨s3,cs,e,p,w9,aq,ap,rfl,ad,ag,af,ah,ae,ai⟩
  walk_at "rd"
  refine⟨C c,⟨by decide,ite2 (fun _=>⟨by decide,fun p5 H5 n5 s5 e5=>?_⟩) (fun _=>?_)⟩,?_⟩
  ·have ac:=s3.trans s5
   refine al ac e5 _ (fun h0=>⟨_,rfl,ite2 (fun _=>⟨⟨by decide,by decide⟩,_,.inl (.of (ac _ _ aj)),h0,?_⟩) (fun z=>absurd rfl z)⟩) ⟨_,rfl,ite2 (fun z=>by cases z) (fun _=>by rw[hC];exact⟨ac,cs,e,p,_,_,_,rfl,ad.mono s5.toT,ag,af,ah,ae,ai⟩)⟩
   obtain⟨v,t,hv,⟨a',p',rfl,bf,am⟩,ar⟩:=bp ac h0 (c / 4)
   obtain⟨t1,t2,t3,t4⟩:=au t ar
   obtain⟨q',xs,b9,aw,hx⟩:=am
   have hxl:=hx.length
   refine⟨_,_,.inl (.of (ac _ _ aj)),hv,?_⟩
   walk_at "rd"
   refine⟨_,_,.inr (.of bf),aqs (j:=1) rfl,p',_,rfl,.of b9,rfl,_,_,rfl,_,_,rfl,rfl,?_⟩
   walk_at "rd"
   obtain⟨mm,cr,em⟩:∃mm:Nat,mm≤xs.length∧c / 64 % ((xs.length:Int)+1)=(mm:Int):=by
    have h1:=Int.emod_nonneg (c / 64) (show (xs.length:Int)+1≠0 by lia)
    have h2:=Int.emod_lt_of_pos (c / 64) (show 0 < (xs.length:Int)+1 by lia)
    exact⟨(c / 64 % ((xs.length:Int)+1)).toNat,by lia,by lia⟩
   refine⟨⟨by decide,by decide⟩,_,.inr (.of aw),by lia,_,.inr (.of aw),?_⟩
   rw[em]
   have av:∀y9 bj bi:Option V,C c [some (.ref a),some (.ref pn),some (.ref pl),some (.int 3),some (.int (m:Int)),some (.ref l),some (.int (0+(i:Int))),some (.int c),some (.ref p),y9,bj,bi] H5:=fun y9 bj bi=>by
    rw[hC]
    exact⟨ac,cs,e,p,_,_,_,rfl,ad.mono s5.toT,ag,af,ah,ae,ai⟩
   refine ite2 (fun cu=>?_) (fun _=>av _ _ _)
   have ax:mm < t.2.1.length:=by lia
   obtain⟨w,hw⟩:∃w,xs[mm]?=some w:=⟨_,List.getElem?_eq_getElem (by lia)⟩
   obtain⟨d,pd,hd,rfl,b8⟩:=hx.get hw
   refine⟨_,_,.inr (.of aw),aqs hw,?_⟩
   walk_at "rd"
   refine⟨_,_,.inr (.of b8),d.at0,nqY.mpr ⟨_,rfl,?_⟩⟩
   refine ite2 (fun _=>?_) (fun _=>av _ _ _)
   obtain⟨nn,ao⟩:∃nn,nm[mm]?=some nn:=⟨_,List.getElem?_eq_getElem (by lia)⟩
   have u5:=s2.trans ac
   refine⟨_,aw,fun p6 H6 s6 e6=>⟨_,_,.inl (.of ((u5.trans s6) _ _ br)),aqs (by rw[List.getElem?_map,ao];rfl),by decide,fun p7 H7 n7 s7 e7=>⟨by decide,fun p8 H8 n8 s8 e8=>?_⟩⟩⟩
   rw[kq9] at e6
   refine .inr ⟨_,_,(s7.trans s8) _ _ e6,e8,aqq (by rw[length_take];simp only[length_cons,length_nil];lia),fun p9 H9 s9 e9=>⟨_,(((s6.trans s7).trans s8).trans s9) _ _ aw,fun ck cz bo bu=>?_⟩⟩
   rw[show ((mm:Int)+1)=((mm+1:Nat):Int) by lia,qqr] at bu
   refine .inr ⟨_,_,bo _ _ e9,bu,aqq (by rw[length_append,length_take,length_drop];simp only[length_cons,length_nil];lia),fun bz cy bw cg=>⟨by decide,fun bx cj cm bn cf=>?_⟩⟩
   have u7:=(s8.trans s9).trans ((bo.trans bw).trans bn)
   have bv:=(s6.trans s7).trans u7
   have be:=hx.mono bv.toT
   have ci:cj p7=some (.tup (Pc.gap nn).vals):=u7 _ _ e7
   rw[hC]
   refine⟨ac.trans bv,t.2.1.take mm++[.gap nn]++t.2.1.drop (mm+1),t.2.2,bx,_,_,_,rfl,⟨bz,_,cf,bn _ _ cg,PcT.append (be.drop (mm+1)) (PcT.append (.cons ci .nil) (be.take mm))⟩,⟨?_,fun z hz=>?_⟩,tqv ax t3,?_,(ay t ar).put ax ao,fun z=>(by have:=congrArg List.length z;simp at this)⟩
   ·rw[length_append,length_append,length_take,length_drop,length_singleton];lia
   ·rcases mem_append.mp hz with z1|z1
    ·rcases mem_append.mp z1 with z2|z2
     ·exact t2.2 z (mem_of_mem_take z2)
     ·rw[mem_singleton.mp z2];exact⟨trivial,qqf trivial (bt nn (mem_of_getElem? ao))⟩
    ·exact t2.2 z (List.mem_of_mem_drop z1)
   ·rw[length_append,length_append,length_take,length_drop,length_singleton];lia
  ·rw[hC]
   exact⟨s3,cs,e,p,_,_,_,rfl,ad,ag,af,ah,ae,ai⟩
  clear ad ag af ah ae ai s3 cs e p w9 aq ap H3
  rw[hC]
  rintro σ H3 ⟨s3,cs,e,p,w9,aq,ap,rfl,ad,ag,af,ah,ae,ai⟩
  walk_at "rd"
  obtain⟨nn,ao⟩:∃nn,lb[i]?=some nn:=⟨_,List.getElem?_eq_getElem (by lia)⟩
  refine⟨⟨_,.of (s3 _ _ aj)⟩,_,_,.inl (.of ((s2.trans s3) _ _ b7)),by rw[Int.zero_add];exact aqs (by rw[List.getElem?_map,ao];rfl),by decide,fun p4 H4 n4 s4 e4=>?_⟩
  have cb:=(s3.trans s4) _ _ aj
  have sT:=gqK (ys:=ws++[.ref p4]) cb
  refine⟨ws,cb,Nat.lt_of_le_of_lt (show ws.length≤16 by lia) (by decide),jqA n1 (s2.trans (s3.trans s4)),T++[(nn,cs,e)],ws++[.ref p4],_,_,_,_,_,_,⟨rfl,rfl,rfl,rfl,rfl,rfl⟩,aqm,TbV.append (.cons ⟨p4,p,rfl,sT _ _ e4,(ad.mono s4.toT).mono sT⟩ .nil) ((hT.mono (s3.trans s4).toT).mono sT),fun t ht=>?_,by rw[length_append,length_singleton,bg],fun t ht=>?_,by rw[map_append,bh,take_add_one,ao];rfl,fun t ht=>?_⟩
  ·rcases mem_append.mp ht with z|z
   ·exact au t z
   ·rw[mem_singleton.mp z]
    exact⟨ca nn (mem_of_getElem? ao),ag,af,ah⟩
  ·rcases mem_append.mp ht with z|z
   ·exact ay t z
   ·rw[mem_singleton.mp z]
    exact ae
  ·rcases mem_append.mp ht with z|z
   ·exact az t z
   ·rw[mem_singleton.mp z]
    exact ai
theorem sqe (g:G K mg):FnOk P w K mg base (CXN P w base) 7 g.kqZ g.jql ["pattern","values"] (rq6 K g.aqK):=by
 refine g.nqU.okn lq6 (fun vs H Q E h=>?_) (fun ay A ad s H vs Q E hr h=>?_)
 ·obtain⟨cs,xs,p,q,pz,cl,ws,ys,rfl,_⟩:=h;rfl
 ·obtain⟨cs,xs,p,q,pz,cl,ws,ys,rfl,hp,hq,hx,hn,am,ah,hw,af,ae,kQ,kE⟩:=h
  refine⟨_,(aqc (aqk (i:=2) lq6.nd rfl (Or.inl rfl) (aqG aqb))
   (aqc (gq1 PassesOwn.leaving rfl (jq0 (K:=K) rfl (aqw (aqh (K:=K) rfl) (pv 0) (aqx (v:=rqj) rfl g.nqL ⟨_,rfl⟩) (fun _ _=>rfl))) (aqX (i:=3) lq6.nd rfl (Or.inl rfl))
   (aqe (cqo (cqs (K:=K) rfl PySem.F.plainAttrs_list PySem.F.slot_list_extend PySem.F.type_list_extend tqq (pv 2) (aqa (aqf (kqG g) (hr.mono (by decide)) rfl g.hq9 g.fqi.kp g.hqT .nil fqs (aqa (pv 3) (aqa (pv 1) aqb))) aqb)))))
   (aqc (cqo (aqf (jqV g) (hr.mono (by decide)) rfl g.gq5 g.eqi.kp g.hqn .nil fqs (aqa (pv 0) (aqa (pv 1) aqb))))
   (aqe (aql (aqy (aqa kqJ (aqa (aq8 (cqS (K:=K) rfl) rfl g.gqM fqK (aqa (pv 2) aqb)) (aqa (aqw (aqh (K:=K) rfl) (pv 0) (aqx (v:=vq0) rfl g.qqW ⟨_,rfl⟩) (fun _ _=>rfl)) aqb))))))))),?_⟩
  walk_at "rd"
  have ax:=hx.length
  refine⟨by decide,fun p1 H1 n1 s1 au=>⟨_,_,.inr (s1.tup hp),rfl,q,rfl,⟨_,s1.tup hq⟩,?_⟩⟩
  refine rql (xs:=xs) (fun i σ H'=>SameBut p1 H H'∧∃(v3:Option V) (ss:List (List Nat)),σ=[some (.ref p),some (.ref pz),some (.ref p1),v3]∧fillF (cs.take i) ws=.ok ss∧H' p1=some (.lst (ss.map tV))∧ss.length≤i * 100000) ⟨Same.but s1,none,[],rfl,by rw[take_zero];rfl,au,Nat.zero_le _⟩ (fun i σ H' _ h=>(h.1.same n1).tup hq) ?_ ?_
  ·rintro i x σ H2 al ⟨sb,v3,ss,rfl,hf,ac,ao⟩
   obtain⟨c,pc,hc,rfl,hv⟩:=hx.get al
   have s2:=sb.same n1
   have hi:i < cs.length:=(List.getElem?_eq_some_iff.mp hc).1
   obtain⟨aj,ai⟩:=am c (mem_of_getElem? hc)
   walk_at "rd"
   refine⟨⟨_,.of ac⟩,c,pc,pz,ws,ys,rfl,s2.tup hv,aj,ai,s2 _ _ ah,hw.mono s2,af,ae,fun s' ag q2 H3 s3 aq=>?_,fun n av d H3 s3 hd=>?_⟩
   ·have hb:=sqG ag ae
    have aw:i * 100000≤99 * 100000:=Nat.mul_le_mul_right _ (by lia)
    refine wqj.mpr ⟨_,_,s3 _ _ ac,aq,?_,?_⟩
    ·rw[length_map,length_map]
     exact Nat.le_trans (show ss.length+s'.length≤10000000 by lia) (by decide)
    ·refine⟨(sb.trans s3.but).trans iqq,_,ss++s',rfl,mqP hc hf ag,by rw[aqm,map_append],?_⟩
     rw[length_append,Nat.add_mul]
     lia
   ·refine kE n ?_ d H3 (s2.trans s3) hd
    unfold fillM
    rw[oqK hc hf av]
  ·rintro σ H2 ⟨sb,v3,ss,rfl,hf,ac,ao⟩
   have s2:=sb.same n1
   rw[ax,take_length] at hf
   walk_at "rd"
   refine⟨cs,xs,p,q,pz,cl,ws,ys,rfl,s2.tup hp,s2.tup hq,hx.mono s2,hn,s2 _ _ ah,hw.mono s2,af,fun ho H3 s3=>?_,fun n ho d H3 s3 hd=>?_⟩
   ·refine⟨_,.inl (.of (s3 _ _ ac)),fun qw H4 s4 ap=>⟨_,_,.inr (((s2.trans s3).trans s4).tup hp),rfl,by decide,fun pw H5 n5 s5 ar=>?_⟩⟩
    refine kQ ss ?_ pw qw H5 (((s2.trans s3).trans s4).trans s5) (s5 _ _ ap) ar
    unfold fillM
    rw[hf,ho]
   ·refine kE n ?_ d H3 (s2.trans s3) hd
    unfold fillM
    rw[hf,ho]
theorem wq6 (g:G K mg):FnOk P w K mg base CX0 7 g.rqa g.nqQ ["text"] (wq7 K):=by
 refine g.tqP.ok hqs (fun vs H Q E h=>?_) (fun aw A ai s H vs Q E hr h=>?_)
 ·obtain⟨x,t,rfl,_⟩:=h;rfl
 ·obtain⟨x,t,rfl,hl,ac,wf,hw,k⟩:=h
  refine⟨_,(aqc (aqN (dqm (bqb (aqF eqo rfl g.bqm aq4 (aqa (pv 0) (aqa (iqt (v:=.ty "str") rfl g.pq0 mq4 rfl) aqb)))))
    (aqe hqv) aqr)
   (aqc (aqk (i:=1) hqs.nd rfl (Or.inl rfl) (wq2 g.qqs (iqz g) (hr.mono (by decide)) rfl g.qqv g.fqq .nil pass0 (aqa (pv 0) aqb)))
   (aqc (aqk (i:=2) hqs.nd rfl (Or.inl rfl) (aqf (lqw g) (hr.mono (by decide)) rfl g.hqZ g.fqf.kp g.hq8 .nil pass0 (aqa (pv 1) aqb)))
   (aqc (aqk (i:=3) hqs.nd rfl (Or.inl rfl) (aqf (mqe g) (hr.mono (by decide)) rfl g.iqP g.fqF.kp g.iqF .nil pass0 (aqa (pv 1) aqb)))
   (aqE (aqk (i:=4) hqs.nd rfl (Or.inl rfl) (bqd (aqj eqy (pv 3) aqM (nomark _)) aqM (aqf (oqa g) (hr.mono (by decide)) rfl g.kqy g.hqk.kp g.kqD .nil pass0 (aqa (pv 1) aqb))))
   (aqE (aqk (i:=5) hqs.nd rfl (Or.inl rfl) (aqf (oqA g) (hr.mono (by decide)) rfl g.mqa g.iqv.kp g.lqW .nil pass0 (aqa (pv 1) (aqa (rqA (aq5 lqi (pv 2) aqg (nomark _)) (dqp (aq5 nqj (pv 3) aqM (nomark _)))) aqb))))
   (aqc (aqk (i:=6) hqs.nd rfl (Or.inl rfl) (aqf (jq8 g) (hr.mono (by decide)) rfl g.gqv g.dqu.kp g.gqq .nil pass0 (aqa (pv 1) aqb)))
   (aqc (aqk (i:=7) hqs.nd rfl (Or.inl rfl) (aqf (nqp g) (hr.mono (by decide)) rfl g.kqv g.hqu.kp g.kqz .nil pass0 (aqa (pv 1) aqb)))
   (aqc (aqN (dqm (bqb (fq6 (pv 1) g.aqo g.dqt (gqs g) (hr.mono (by decide)) g.eqr .nil pass0)))
    (aqe hqv) aqr)
   (aqe (aql (aqy (aqa (pv 2) (aqa (pv 3) (aqa (pv 4) (aqa (pv 5) (aqa (pv 6) (aqa (pv 7) aqb)))))))))))))))))),?_⟩
  obtain⟨hT,dT,wT,qT,mT,et,es,hH,hD,hS,hQ,hM⟩:=hw
  walk_at "rd"
  intro p dx hp aq av
  have aj:mT=[]∨∃y,mT=35::y:=by
   cases hm:x.mark with
   |none=>rw[hm] at hM;exact .inl hM
   |some s=>rw[hm] at hM;obtain⟨v,e,_⟩:=hM;exact .inr ⟨v,e⟩
  have ag:qT++mT=[]∨(∃y,qT++mT=35::y)∨∃y,qT++mT=63::y:=by
   cases hq:x.quest with
   |none=>
    rw[hq] at hQ
    have hQ:qT=[]:=hQ
    rw[hQ]
    rcases aj with e|⟨y,e⟩
    ·exact .inl e
    ·exact .inr (.inl ⟨y,e⟩)
   |some ps=>
    rw[hq] at hQ
    cases ps with
    |nil=>
     have hQ:qT=[63]:=hQ
     exact .inr (.inr ⟨mT,by rw[hQ];rfl⟩)
    |cons a ps=>
     obtain⟨n,o⟩:=a
     obtain⟨a,v,r,e,_⟩:=hQ
     exact .inr (.inr ⟨_,by rw[e];rfl⟩)
  have ap:SameBut p H (upd (upd H dx (.own p)) p (.ins g.aqt dx [])):=fun b o n e=>by
   rw[aqp n,aqp (aqn e aq)]
   exact e
  refine⟨p,dx,t,rfl,aqm,fun H1 s1 c1=>⟨rfl,?_⟩⟩
  have ar:=ap.trans s1
  have tl:∀{a b:List Nat},t=a++b->a.length≤t.length∧t.drop a.length=b:=fun {a b} e=>by
   rw[e,drop_left,length_append]
   exact⟨by lia,rfl⟩
  refine⟨p,t,rfl,c1,hl,fun H2 s2 c2=>?_⟩
  rw[es]
  have eP:schP t=(schT x.scheme).length:=by unfold schP;rw[es]
  rw[eP] at c2
  obtain⟨i2,d2⟩:=tl et
  have af:x.house≠none->x.rooted=true:=fun z=>wf.roo (.inr z)
  refine⟨p,t,hT,_,_,x.house,rfl,c2,i2,by lia,ac,d2,hH,?_,?_,fun H3 s3 c3=>?_⟩
  ·intro hn
   rw[af hn]
   refine fun c hc=>?_
   cases hdo:x.door with
   |none=>
    rw[hdo] at hD
    have hD:dT=[]:=hD
    rw[hD] at hc
    cases hc
    decide
   |some n=>
    rw[hdo] at hD
    obtain⟨ds,rfl,_⟩:=hD
    cases hc
    decide
  ·intro hn
   cases hdo:x.door with
   |some n=>exact absurd hn (wf.doo n hdo).2
   |none=>
    rw[hdo] at hD
    have hD:dT=[]:=hD
    rw[hD,nil_append]
    have hr:(qT++mT).head?≠some 47:=fun z=>by
     rcases ag with e|⟨y,e⟩|⟨y,e⟩ <;> rw[e] at z <;> cases z
    have ah:=rqi hS hr
    cases hrt':x.rooted with
    |false=>
     intro z
     simp only[Bool.false_eq_true,if_false,nil_append] at z
     cases hh:wT++(qT++mT) with
     |nil=>rw[hh] at z;cases z
     |cons c r=>rw[hh] at z ah;exact ah (by injection z with z1 z2;rw[z1];rfl)
    |true=>
     intro z
     simp only[if_true,cons_append,nil_append] at z
     cases hh:wT++(qT++mT) with
     |nil=>rw[hh] at z;cases z
     |cons c r=>
      rw[hh] at z ah
      refine ah ?_
      injection z with z1 z2
      injection z2 with z2 z3
      rw[z2]
      rfl
  have ao:=(ar.trans s2).trans s3
  obtain⟨i3,d3⟩:=tl (a:=schT x.scheme++hT) (b:=dT++((if x.rooted then [47] else [])++(wT++(qT++mT)))) (by rw[et];simp)
  rw[length_append] at i3 d3
  refine⟨fun σ H4=>SameBut p H H4∧Cur H4 g.aqt p t ((schT x.scheme++(hT++dT)).length)∧σ=[some (.str ⟨t.toArray⟩),some (.ref p),some (.str ⟨x.scheme.toArray⟩),some (otV x.house),some (itV x.door),none,none,none],?_,?_⟩
  ·cases hho:x.house with
   |none=>
    rw[if_pos (show otV none=V.non from rfl)]
    cases hdo:x.door with
    |some n=>exact absurd hho (wf.doo n hdo).2
    |none=>
     rw[hdo] at hD
     have hD:dT=[]:=hD
     refine⟨ao,?_,rfl⟩
     rw[hD,append_nil,length_append]
     exact c3
   |some l=>
    rw[if_neg (by simp[otV])]
    refine⟨p,t,dT,_,_,x.door,rfl,c3,i3,by lia,ac,d3,hD,?_,?_,fun H4 s4 c4=>⟨ao.trans s4,?_,rfl⟩⟩
    ·rw[af (by rw[hho];simp)]
     intro c hc
     cases hc
     decide
    ·intro _
     rw[af (by rw[hho];simp)]
     simp
    ·rw[length_append,length_append,<- Nat.add_assoc]
     exact c4
  rintro σ H4 ⟨am,c4,rfl⟩
  obtain⟨i4,d4⟩:=tl (a:=schT x.scheme++(hT++dT)) (b:=(if x.rooted then [47] else [])++(wT++(qT++mT))) (by rw[et];simp)
  walk_at "rd"
  have ae:∀ad:Bool,(ad=true->x.rooted=true)->∀(Q':VK),(∀u H5,SameBut p H H5->Cur H5 g.aqt p t (t.length - (qT++mT).length)->IsT H5 x.way u->Q' u H5)->kqi K g.aqt [V.ref p,V.bl ad] H4 Q' E0:=fun ad hm Q' hk=>by
   refine⟨p,t,wT,qT++mT,_,ad,x.rooted,x.steps,x.ends,rfl,c4,i4,by lia,ac,d4,hS,wf.end_,hm,?_,?_,fun u H5 s5 c5 hu=>hk u H5 (am.trans s5) c5 hu⟩
   ·rcases ag with e|⟨y,e⟩|⟨y,e⟩ <;> rw[e]
    ·exact lqc
    ·exact cqX ⟨by decide,by decide +kernel,by decide⟩
    ·exact cqX ⟨by decide,by decide +kernel,by decide⟩
   ·rcases ag with e|⟨y,e⟩|⟨y,e⟩ <;> rw[e] <;> simp
  refine⟨fun σ H5=>∃u,SameBut p H H5∧Cur H5 g.aqt p t (t.length - (qT++mT).length)∧IsT H5 x.way u∧σ=[some (.str ⟨t.toArray⟩),some (.ref p),some (.str ⟨x.scheme.toArray⟩),some (otV x.house),some (itV x.door),some u,none,none],?_,?_⟩
  ·refine ite2 (fun z=>?_) (fun z=>?_)
   ·exact ae true (fun _=>wf.roo (.inl fun e=>z (by rw[e]))) _ (fun u H5 sb c hu=>⟨u,sb,c,hu,rfl⟩)
   ·refine ae _ (fun e=>af fun z'=>?_) _ (fun u H5 sb c hu=>⟨u,sb,c,hu,rfl⟩)
    rw[z'] at e
    exact absurd e (by simp[otV])
  rintro σ H5 ⟨u,al,c5,hu,rfl⟩
  have au:t.length - (qT++mT).length+(qT++mT).length=t.length:=by
   have:=congrArg List.length et
   simp only[length_append] at this ⊢
   lia
  obtain⟨i5,d5⟩:=tl (a:=schT x.scheme++(hT++(dT++((if x.rooted then [47] else [])++wT)))) (b:=qT++mT) (by rw[et];simp)
  have e5:(schT x.scheme++(hT++(dT++((if x.rooted then [47] else [])++wT)))).length=t.length - (qT++mT).length:=by
   have:=congrArg List.length et
   simp only[length_append] at this ⊢
   lia
  rw[e5] at i5 d5
  walk_at "rd"
  refine⟨p,t,qT,mT,_,x.quest,rfl,c5,i5,by lia,ac,d5,hQ,aj,fun uq H6 s6 c6 hq=>?_⟩
  have e6:t.length - mT.length≤t.length:=by lia
  have d6:t.drop (t.length - mT.length)=mT:=by
   obtain⟨_,z⟩:=tl (a:=schT x.scheme++(hT++(dT++((if x.rooted then [47] else [])++(wT++qT))))) (b:=mT) (by rw[et];simp)
   have e7:(schT x.scheme++(hT++(dT++((if x.rooted then [47] else [])++(wT++qT))))).length=t.length - mT.length:=by
    have:=congrArg List.length et
    simp only[length_append] at this ⊢
    lia
   rw[e7] at z
   exact z
  refine⟨p,t,mT,_,x.mark,rfl,c6,e6,by lia,ac,d6,hM,fun H7 s7 c7=>?_⟩
  refine aqu c7 ⟨p,t,_,rfl,c7,by lia,_,rfl,?_⟩
  rw[decide_eq_true rfl,if_neg (by decide)]
  refine⟨by decide,fun pr H8 _ s8 h8=>k _ H8 (((((al.trans s6).trans s7).same hp).trans s8)) ?_⟩
  exact adT h8 ((((hu.mono (c5.toT s6)).mono (c6.toT s7))).mono s8.toT) ((hq.mono (c6.toT s7)).mono s8.toT)
theorem uq8 (g:G K mg):FnOk P w K mg base (CXN P w base) 8 g.qq8 g.nqG ["table","name","values"] (vqk K g.bqW g.aqK):=by
 refine g.tqi.okn wqM (fun vs H Q E h=>?_) (fun aj A ac s H vs Q E hr h=>?_)
 ·obtain⟨l,lv,T,ws,n,wz,ys,rfl,_⟩:=h;rfl
 ·obtain⟨l,lv,T,ws,n,wz,ys,rfl,hl,hT,ah,ai,hV,ae,ad,kN,k⟩:=h
  refine⟨_,(aqe (aql (aqf (sqe g) (hr.mono (by decide)) rfl g.qqU g.nqU.kp g.qqO .nil fqs (aqa (aqf (jq2 g) (hr.mono (by decide)) rfl g.gqS g.eqk.kp g.gq2 .nil fqs (aqa (pv 0) (aqa (pv 1) aqb))) (aqa (pv 2) aqb))))),?_⟩
  walk_at "rd"
  refine⟨l,T,ws,n,rfl,hl,hT,fun t ht p H1 s1 ag=>?_,fun h0 H1 s1=>kN h0 H1 s1⟩
  obtain⟨q,xs,hp,hq,hx⟩:=ag
  obtain⟨k1,k2⟩:=k t ht
  have ot:=ah t (List.mem_of_find?_eq_some ht)
  have o90:=ot.1
  exact⟨t.2.1,xs,p,q,lv,t.2.2,wz,ys,rfl,.of hp,.of hq,hx.all,by lia,(fun c hc=>by have:=(ot.2 c hc).1.ends;exact⟨by lia,by lia⟩),s1 _ _ ai,hV.mono s1,ae,ad,fun ss af pw qw H2 s2 h1 h2=>k1 ss af pw qw H2 (s1.trans s2) h1 h2,fun z hz d H2 s2 hd=>k2 z hz d H2 (s1.trans s2) hd⟩
theorem gqp (g:G K mg):FnOk P w K mg base (CXN P w base) 9 g.dqb g.bqG ["table","base","name","values","question","mark"] (kqP K g.cqw g.bqW g.aqK):=by
 refine g.cq9.okn lqD (fun vs H Q E h=>?_) (fun aj A ac s H vs Q E hr h=>?_)
 ·obtain⟨l,lv,T,ws,n,wz,ys,x,vb,vq,vm,rfl,_⟩:=h;rfl
 ·obtain⟨l,lv,T,ws,n,wz,ys,x,vb,vq,vm,rfl,hb,hl,hT,ae,ai,hV,ag,af,kB,k⟩:=h
  refine⟨_,(aqc (aqN (dqm (bqb (aqf (mqd g) (hr.mono (by decide)) rfl g.jqM g.hqB.kp g.jqI .nil pass0 (aqa (pv 1) aqb))))
    (aqe (oqq raisesN rfl g.nqA g.qqm rfl)) aqr)
   (aqe (aql (aqi (aqB (K:=K)) (cq4 lqG (pv 1) iqh (cqR (aqx (v:=zqJ) rfl g.yqx ⟨_,rfl⟩))) (aqy (aqa (aqf (uq8 g) (hr.mono (by decide)) rfl g.wqo g.tqi.kp g.wqh .nil fqs (aqa (pv 0) (aqa (pv 2) (aqa (pv 3) aqb)))) (aqa (pv 4) (aqa (pv 5) aqb)))))))),?_⟩
  walk_at "rd"
  obtain⟨pb,wb,qb,rfl,ad,_,_⟩:=wqn hb
  refine⟨pb,x.scheme,_,rfl,.of ad,_,rfl,?_⟩
  have ok:∀t,T.find? (fun t=>decide (t.1=n))=some t->PcsOk t.2.1:=fun t ht=>ae t (List.mem_of_find?_eq_some ht)
  by_cases h0:x.scheme=[]
  ·rw[decide_eq_true h0]
   exact ite2 (fun _=>kB h0 H (Same.refl _)) (fun z=>absurd rfl z)
  rw[decide_eq_false h0]
  refine ite2 (fun z=>by cases z) (fun _=>?_)
  obtain⟨kN,kT⟩:=k h0
  walk_at "rd"
  refine⟨_,ad,fun p1 H1 s1 h1=>?_⟩
  rw[show (some (3:Int))=some ((3:Nat):Int) from rfl,kq9] at h1
  refine⟨l,lv,T,ws,n,wz,ys,rfl,s1 _ _ hl,hT.mono s1.toT,ae,s1 _ _ ai,hV.mono s1,ag,af,fun hn H2 s2=>kN hn H2 (s1.trans s2),fun t ht=>⟨fun ss ah pw qw H2 s2 h2 h3=>⟨by decide,fun p3 H3 n3 s3 h4=>?_⟩,fun z hz d H2 s2 hd=>(kT t ht).2 z hz d H2 (s1.trans s2) hd⟩⟩
  refine .inr ⟨_,_,(s2.trans s3) _ _ h1,h4,(show 3+3≤sizeLine by decide),fun p5 H5 s5 h5=>?_⟩
  exact (kT t ht).1 ss ah p5 pw qw H5 (((s1.trans s2).trans s3).trans s5) ((s3.trans s5) _ _ h2) ((s3.trans s5) _ _ h3) h5
theorem kqA (g:G K mg):FnOk P w K mg base CX0 10 g.fq4 g.eqO ["_law_table_here","_law_base_here","_law_name","_law_values_here","_law_more_here"] (pqv K):=by
 refine g.gqe.ok aq6 (fun vs H Q E h=>?_) (fun aq A ad s H vs Q E hr h=>?_)
 ·obtain⟨l,lv,lm,T,ws,n,wz,ys,ms,x,vb,vq,vm,q,m,rfl,_⟩:=h;rfl
 ·obtain⟨l,lv,lm,T,ws,n,wz,ys,ms,x,vb,vq,vm,q,m,rfl,hb,hl,hT,aj,al,hV,ah,ag,ac,ae,kB,k⟩:=h
  refine⟨_,(aqc (aqk (i:=5) aq6.nd rfl (Or.inl rfl) aqM)
   (aqc (aqk (i:=6) aq6.nd rfl (Or.inl rfl) aqg)
   (aqc (xqq (i:=7) (Aqo (aqj (nqa hr.units) (pv 4) (aqG aqb) (nomark _)) (tqX (i:=5) aq6.nd rfl rfl (rqT (dvs:=[.non,.non]) (gqp g) (hr.mono (by decide)) rfl g.fqe g.cq9.kp g.gqV (.cons rfl (.cons rfl .nil)) (aqa (pv 0) (aqa (pv 1) (aqa (pv 2) (aqa (pv 3) aqb)))) (fun _ _ h=>h))) (tqX (i:=5) aq6.nd rfl rfl (sqT (gqp g) (hr.mono (by decide)) rfl g.fqe g.cq9.kp g.hq7 (aqa (pv 0) (aqa (pv 1) (aqa (pv 2) (aqa (pv 3) (aqa (aqw (aqh (K:=K) rfl) (pv 4) aqd (fun _ _=>rfl)) (aqa (aqw (aqh (K:=K) rfl) (pv 4) aqd (fun _ _=>rfl)) aqb)))))) (fun _ _ h=>h))) (fun _ _ h=>h)) rfl rfl rfl g.nqA g.qqZ rfl g.nqg g.rqs rfl g.jqq g.pqx aq6.nd rfl rfl (fun _=>(aqe (aqk (i:=6) aq6.nd rfl (Or.inl rfl) aqg))) (fun _=>(aqe (aqk (i:=6) aq6.nd rfl (Or.inl rfl) aqg))) (fun _=>(aqe (aqk (i:=6) aq6.nd rfl (Or.inl rfl) (aqi (aqB (K:=K)) (vqM (K:=K) rfl (pv 7) rfl) aqg)))))
   (aqe (aql (aqy (aqa (pv 5) (aqa (pv 6) aqb)))))))),?_⟩
  have eL:Str.ofString " lacks"=⟨[32,108,97,99,107,115].toArray⟩:=by decide +kernel
  rw[eL]
  walk_at "rd"
  have af:∃ds:List PyData,Is H (.list ds) (.ref lm)∧SeqAt.shaped (.list ds)=true∧ds.isEmpty=ms.isEmpty:=by
   rcases ae with⟨rfl,_,_⟩|⟨rfl,hq,hm,sq,sm⟩
   ·exact⟨[],.lst ac .nil,by decide +kernel,rfl⟩
   ·refine⟨[qD q,oD m],.lst ac (.cons hq.is (.cons hm.is .nil)),(layL (n:=2) fun d hd=>?_).shaped (by decide),rfl⟩
    simp only[mem_cons,not_mem_nil,or_false] at hd
    rcases hd with rfl|rfl
    ·exact LayAt.qD fun ps e=>(sq ps e).2
    ·exact (LayAt.oD fun l e=>(sm l e).2).le (by decide)
  obtain⟨ds,am,ao,ap⟩:=af
  refine⟨by decide,fun p1 H1 n1 s1 h1=>⟨.list ds,.list [],am.mono s1,.lst h1 .nil,ao,by decide +kernel,_,rfl,?_⟩⟩
  rw[jqx,ap]
  rcases ae with⟨rfl,rfl,rfl⟩|⟨rfl,_⟩
  all_goals first
   |refine ite2 (fun _=>?_) (fun z=>absurd rfl z)
   |refine ite2 (fun z=>by cases z) (fun _=>⟨_,_,.inl (.of (s1 _ _ ac)),aqs (j:=0) rfl,_,_,.inl (.of (s1 _ _ ac)),aqs (j:=1) rfl,?_⟩)
  all_goals
   refine⟨l,lv,T,ws,n,wz,ys,x,vb,_,_,rfl,hb.mono s1.toT,s1 _ _ hl,hT.mono s1.toT,aj,s1 _ _ al,hV.mono s1,ah,ag,fun h0 H2 s2=>⟨_,rfl,.inl ⟨g.gqT,fun a ha=>⟨by decide,fun p H3 n3 s3 e3=>kB h0 p H3 (((s1.trans s2).trans (bqc ha)).trans s3) e3⟩⟩⟩,fun h0=>⟨fun hn H2 s2=>⟨_,rfl,.inr ⟨g.gqH,.inl ⟨g.gqY,fun a ha=>⟨by decide,fun p H3 n3 s3 e3=>(k h0).1 hn p H3 (((s1.trans s2).trans (bqc ha)).trans s3) e3⟩⟩⟩⟩,fun t ht=>⟨fun ss ai p pw qw H2 s2 g1 g2 g3=>⟨by decide,fun p3 H3 n3 s3 e3=>((k h0).2 t ht).1 ss ai p3 p pw qw H3 ((s1.trans s2).trans s3) (s3 _ _ g1) (s3 _ _ g2) (s3 _ _ g3) e3⟩,fun z hz d H2 s2 hd=>⟨_,rfl,.inr ⟨g.gqx,.inr ⟨g.gql,g.fqy,fun a ha=>?_⟩⟩⟩⟩⟩⟩
   obtain⟨k1,k2⟩:=((k h0).2 t ht).2 z hz
   refine⟨a,_,d,_,_,rfl,aqm,(by rw[aqp (aqn hd ha)];exact hd),g.hqt,(by rw[lookup_cons,beq_self_eq_true]),dqA.mpr ⟨aqq (by rw[aqT,aqT];simp only[length_cons,length_nil];lia),?_⟩⟩
   rw[dqq]
   exact⟨by decide,fun p H3 n3 s3 e3=>k2 p H3 (((s1.trans s2).trans (bqc ha)).trans s3) e3⟩
theorem nqr (g:G K mg):FnOk P w K mg base CX0 11 g.eq4 g.dqL ["_law_table_here","_law_k","_law_cell","_law_odd"] (nq3 K):=by
 refine g.gq9.ok aqA (fun vs H Q E h=>?_) (fun fi A b9 s H vs Q E hr h=>?_)
 ·obtain⟨l,T,ws,kk,c,ae,rfl,_⟩:=h;rfl
 ·obtain⟨l,T,ws,kk,c,ae,rfl,hl,hT,cr,fh,ee,eg,au,bp,k⟩:=h
  refine⟨_,(aqc (qqX (aqw (aqh (K:=K) rfl) (pv 0) (pv 1) (fun _ _=>rfl)) (iql (n:=2) (K:=K) rfl rfl (bqe (aqX (i:=4) aqA.nd rfl (Or.inl rfl)) (bqe (aqX (i:=5) aqA.nd rfl (Or.inl rfl)) gqU))))
   (aqc (aqk (i:=6) aqA.nd rfl (Or.inl rfl) (aqf (dqn g) (hr.mono (by decide)) rfl g.cqU g.cql.kp g.cqV .nil pass0 (aqa (aqi aqz (pv 2) aqd) aqb)))
   (aqc (aqk (i:=7) aqA.nd rfl (Or.inl rfl) (aqf (kqa g) (hr.mono (by decide)) rfl g.iqy g.gqh.kp g.iqe .nil pass0 (aqa (aqi aqz (pv 2) aqd) (aqa (pv 6) aqb))))
   (aqE (aqk (i:=8) aqA.nd rfl (Or.inl rfl) (aqf (pqD g) (hr.mono (by decide)) rfl g.lqJ g.iqm.kp g.lqr .nil pass0 (aqa (aqi aqz (pv 2) aqd) (aqa (pv 6) aqb))))
   (aqE (aqk (i:=9) aqA.nd rfl (Or.inl rfl) (aqf (mqj g) (hr.mono (by decide)) rfl g.iqZ g.fqW.kp g.iqA .nil pass0 (aqa (pv 5) (aqa (aqG (aqa (aqi aqz (pv 2) aqd) (aqa (aqi aqz (pv 2) aqd) (aqa (aqi (aqB (K:=K)) (aqi aqz (pv 2) aqd) aqd) aqb)))) aqb))))
   (aqc (aqk (i:=10) aqA.nd rfl (Or.inl rfl) aqg)
   (aqE (aqN (PW.pt (gqu (aqj bqk (aqi aqJ (pv 2) aqd) aqd (nomark _)) (eqp (aqj (mqb hr.units) (pv 9) (aqG aqb) (nomark _)))))
    (aqc (aqk (i:=10) aqA.nd rfl (Or.inl rfl) (aqi (aqB (K:=K)) (aqw (aqh (K:=K) rfl) (aqw (aqh (K:=K) rfl) (pv 9) aqd (fun _ _=>rfl)) aqd (fun _ _=>rfl)) aqg))
   (aqe (aqk (i:=9) aqA.nd rfl (Or.inl rfl) (cq4 (nqh (K:=K) rfl) (pv 9) (cqR aqd) iqh)))) aqr)
   (aqE (aqN (aqj bqk (aqi aqJ (pv 2) aqd) aqd (nomark _))
    (aqc (aqk (i:=10) aqA.nd rfl (Or.inl rfl) aqg)
   (aqe (aqk (i:=4) aqA.nd rfl (Or.inl rfl) (pv 3)))) aqr)
   (aqE (aqN (aqj bqk (aqw (aqh (K:=K) rfl) (pv 7) aqd (fun _ _=>rfl)) aqg (nomark _))
    (aqe (aqk (i:=10) aqA.nd rfl (Or.inl rfl) aqg)) aqr)
   (aqc (aqk (i:=11) aqA.nd rfl (Or.inl rfl) (aq8 (mqT (K:=K) rfl) rfl g.qqQ pq9 (aqa (pv 9) aqb)))
   (aqE (qqX (aqf (kqA g) (hr.mono (by decide)) rfl g.iqu g.gqe.kp g.iqg .nil pass0 (aqa (pv 0) (aqa (pv 7) (aqa (pv 4) (aqa (pv 9) (aqa (pv 8) aqb)))))) (iql (n:=2) (K:=K) rfl rfl (bqe (aqX (i:=12) aqA.nd rfl (Or.inl rfl)) (bqe (aqX (i:=13) aqA.nd rfl (Or.inl rfl)) gqU))))
   (aqc (aqN (PW.pt (kqO (aqj lqi (pv 13) (pv 10) (nomark _)) (kqO (aqj (mqb hr.units) (pv 9) (pv 11) (nomark _)) (iqV (aqj (mqb hr.units) (pv 7) (aqf (kqa g) (hr.mono (by decide)) rfl g.iqy g.gqh.kp g.iqe .nil pass0 (aqa (aqi aqz (pv 2) aqd) (aqa (pv 6) aqb))) (nomark _))))))
    (aqe (aql kqJ)) aqr)
   (aqc (aqN (aqj lqi (pv 10) aqg (nomark _))
    (aqe (aql (aq5 eqy (pv 12) aqM (nomark _)))) aqr)
   (aqE (aqk (i:=14) aqA.nd rfl (Or.inl rfl) (aqi (aqB (K:=K)) (aqi (aqB (K:=K)) (cq4 lqG (pv 7) iqh (cqR aqd)) (aqy (aqa (aqf (mql g) (hr.mono (by decide)) rfl g.jqf g.fqG.kp g.iq3 .nil pass0 (aqa (pv 5) (aqa (pv 9) aqb))) aqb))) (cq4 lqG (aq8 (cqS (K:=K) rfl) rfl g.gqM fqK (aqa (aqi (aqB (K:=K)) (pv 8) (aqG (aqa aqM (aqa aqM aqb)))) aqb)) iqh (cqR aqd))))
   (aqc (aqN (PW.pt (kqO (dqm (bqb (aqF eqo rfl g.bqm aq4 (aqa (pv 12) (aqa (iqt (v:=.ty "tuple") rfl g.gqM fqK rfl) aqb))))) (iqV (aqj (mqb hr.units) (pv 12) (pv 14) (nomark _)))))
    (aqe (aql kqJ)) aqr)
   (aqc (aqk (i:=15) aqA.nd rfl (Or.inl rfl) (aqf (xql g) (hr.mono (by decide)) rfl g.wqF g.tqH.kp g.wqI .nil pass0 (aqa (pv 12) aqb)))
   (aqe (aql (rqA (aq5 oqb (aqF (aqO (K:=K) rfl) rfl g.fqn PySem.boot_len (aqa (pv 15) aqb)) aqd (nomark _)) (dqp (aq5 (nqa hr.units) (aqf (wq6 g) (hr.mono (by decide)) rfl g.wqr g.tqP.kp g.wqq .nil pass0 (aqa (pv 15) aqb)) (pv 14) (nomark _)))))))))))))))))))))),?_⟩
  have eL:Str.ofString " lacks"=⟨[32,108,97,99,107,115].toArray⟩:=by decide +kernel
  have eN:Str.ofString "name"=⟨[110,97,109,101].toArray⟩:=by decide +kernel
  have eB:Str.ofString "base"=⟨[98,97,115,101].toArray⟩:=by decide +kernel
  rw[eL,eN,eB]
  walk_at "rd"
  have fb:=hT.length
  obtain⟨t,au⟩:∃t,T[kk]?=some t:=⟨_,List.getElem?_eq_getElem au⟩
  obtain⟨w,hw⟩:∃w,ws[kk]?=some w:=⟨_,List.getElem?_eq_getElem (by rw[fb];exact (List.getElem?_eq_some_iff.mp au).1)⟩
  obtain⟨t',al,ak,pk,rfl,ec,cm⟩:=hT.get hw
  rw[au] at al
  cases al
  have dj:=mem_of_getElem? au
  obtain⟨t1,t2,t3,t4⟩:=cr t dj
  obtain⟨⟨g1,g2,g3⟩,di⟩:=eg t dj
  have ar:∀c∈t.2.1,PcOk c:=fun c hc=>(t2.2 c hc).1
  have bc:=uqQ ee au
  have dq:∀t∈T,PcsOk t.2.1:=fun t ht=>(cr t ht).2.1
  refine⟨_,_,.inl (.of hl),aqs hw,?_⟩
  walk_at "rd"
  refine⟨ak,_,rfl,.of ec,rfl,_,_,rfl,_,_,rfl,rfl,⟨by decide,by decide⟩,c / 7,rfl,fun tx H1 cj ck s1=>⟨⟨by decide,by decide⟩,c / 2,tx,rfl,⟨cj,ck⟩,fun vb H2 s2 dh=>?_⟩⟩
  have ag:Tx4 tx:=⟨cj,ck⟩
  refine⟨fun σ H3=>Same H2 H3∧∃(lm:Addr) (ms:List V) (vq:V),σ=[some (.ref l),some (.int (kk:Int)),some (.int c),some (tV ae),some (tV t.1),some (.ref pk),some (tV tx),some vb,some (.ref lm),none,none,none,none,none,none,none]∧H3 lm=some (.lst ms)∧IsT H3 (qD (queU (c / 11) tx)) vq∧((ms=[]∧vq=.non∧otV (marU (c / 11) tx)=.non)∨ms=[vq,otV (marU (c / 11) tx)]),⟨⟨by decide,by decide⟩,c / 11,tx,rfl,ag,fun h0 lm H3 s3 h3=>⟨s3,lm,[],.non,rfl,h3,?_,.inl ⟨rfl,rfl,?_⟩⟩,fun h0 lm vq H3 s3 h3 h4=>⟨s3,lm,_,vq,rfl,h3,h4,.inr rfl⟩⟩,?_⟩
  ·rw[show queU (c / 11) tx=none from if_pos h0];exact .non
  ·rw[show marU (c / 11) tx=none from if_pos h0];rfl
  rintro σ H3 ⟨s3,lm,ms,vq,rfl,cv,cg,bq⟩
  have u3:=(s1.trans s2).trans s3
  walk_at "rd"
  refine⟨fun σ H4=>Same H3 H4∧∃(bs:List (List Nat×Vl)) (lv:Addr) (ys:List V),σ=[some (.ref l),some (.int (kk:Int)),some (.int c),some (tV ae),some (tV t.1),some (.ref pk),some (tV tx),some vb,some (.ref lm),some (.ref lv),none,none,none,none,none,none]∧GvA t.2.1 bs∧(∀b∈bs,SmV b.2)∧H4 lv=some (.lst ys)∧BndV H4 lv bs ys,⟨⟨by decide,by decide⟩,⟨by decide,by decide⟩,⟨by decide,by decide⟩,by decide,fun p1 H4 n1 s4 e1=>?_⟩,?_⟩
  ·exact⟨t.2.1,t.2.2,pk,p1,[c / 3,c / 5,c / 13+1],rfl,cm.mono (u3.trans s4).toT,ar,by lia,.of e1,Nat.succ_pos _,(show 3≤100 by decide),fun bs lv ys H5 hG bo nl _ s5 h2 hB=>⟨s4.trans s5,bs,lv,ys,rfl,hG,bo,h2,hB⟩⟩
  rintro σ H4 ⟨s4,bs,lv,ys,rfl,hG,bo,az,hB⟩
  have u4:=u3.trans s4
  have ay:=hG.names
  have d9:bs.length≤5:=by
   have h1:=nqT t.2.1
   rw[<- ay,length_map] at h1
   lia
  have hyl:=hB.length
  have bf:=hG.vl
  have be:∀b∈bs,∀x∈b.1,isSg x=true:=fun b hb=>by
   have h9:b.1∈gapsM t.2.1:=by rw[<- ay];exact mem_map_of_mem hb
   obtain⟨c,hc,e⟩:=mem_map.mp h9
   rw[<- e]
   exact (t2.2 c (mem_filter.mp hc).1).2.2.2
  have cx:∀b∈bs,b.1.length≤8:=fun b hb=>g3 _ (by rw[<- ay];exact mem_map_of_mem hb)
  walk_at "rd"
  refine⟨fun σ H5=>Same H4 H5∧∃(ac:List (List Nat×Vl)) (ad:Addr) (af:List V) (f1:List Nat),σ=[some (.ref l),some (.int (kk:Int)),some (.int c),some (tV ae),some (tV t.1),some (.ref pk),some (tV tx),some vb,some (.ref lm),some (.ref ad),some (tV f1),none,none,none,none,none]∧H5 ad=some (.lst af)∧VlsV H5 (ac.map fun b=>(b.1,vlD b.2)) af∧(∀b∈ac,b∈bs)∧ac.length≤5∧((ac=bs∧ad=lv∧af=ys∧f1=[])∨∃b,bs[0]?=some b∧ac=bs.drop 1∧f1=b.1++[32,108,97,99,107,115]),?_,?_⟩
  ·have av:∀{H5:Hp},Same H4 H5->Same H4 H5∧∃(ac:List (List Nat×Vl)) (ad:Addr) (af:List V) (f1:List Nat),[some (.ref l),some (.int (kk:Int)),some (.int c),some (tV ae),some (tV t.1),some (.ref pk),some (tV tx),some vb,some (.ref lm),some (.ref lv),some (tV []),none,none,none,none,none]=[some (.ref l),some (.int (kk:Int)),some (.int c),some (tV ae),some (tV t.1),some (.ref pk),some (tV tx),some vb,some (.ref lm),some (.ref ad),some (tV f1),none,none,none,none,none]∧H5 ad=some (.lst af)∧VlsV H5 (ac.map fun b=>(b.1,vlD b.2)) af∧(∀b∈ac,b∈bs)∧ac.length≤5∧((ac=bs∧ad=lv∧af=ys∧f1=[])∨∃b,bs[0]?=some b∧ac=bs.drop 1∧f1=b.1++[32,108,97,99,107,115]):=fun {H5} s5=>⟨s5,bs,lv,ys,[],rfl,s5 _ _ az,(hB.mono s5).vls,fun b hb=>hb,d9,.inl ⟨rfl,rfl,rfl,rfl⟩⟩
   refine⟨by decide,ite2 (fun _=>⟨by decide,fun p5 H5 n5 s5 e5=>?_⟩) (fun _=>av (Same.refl _))⟩
   refine⟨bndD bs,.list [],.lst (s5 _ _ az) (hB.mono s5).vls.isAll,.lst e5 .nil,(rqd be bf).shaped (by decide),by decide +kernel,_,rfl,?_⟩
   have bu:PyData.eqv (bndD bs) (.list [])=bs.isEmpty:=by
    unfold bndD
    rw[jqx,isEmpty_map,isEmpty_map]
   rw[bu]
   refine ite2 (fun dv=>?_) (fun _=>av s5)
   obtain⟨b,aq⟩:∃b,bs[0]?=some b:=by
    cases bs with
    |nil=>cases dv
    |cons a r=>exact⟨a,rfl⟩
   have hpos:=(List.getElem?_eq_some_iff.mp aq).1
   obtain⟨y,cf⟩:∃y,ys[0]?=some y:=⟨_,List.getElem?_eq_getElem (by lia)⟩
   obtain⟨b',pj,wj,cy,rfl,du,_⟩:=hB.get cf
   rw[aq] at cy
   cases cy
   have fg:=mem_of_getElem? aq
   have:=cx b fg
   refine⟨_,_,.inl (.of (s5 _ _ az)),aqs cf,?_⟩
   walk_at "rd"
   refine⟨_,_,.inr (.of (s5 _ _ du)),aqs (j:=0) rfl,dqA.mpr ⟨aqq (by rw[aqT,aqT];simp only[length_cons,length_nil];lia),?_⟩⟩
   rw[dqq]
   refine⟨_,.of (s5 _ _ az),fun p6 H6 n6 s6 e6=>?_⟩
   rw[show (some (1:Int))=some ((1:Nat):Int) from rfl,qqr] at e6
   exact⟨s5.trans s6,bs.drop 1,p6,ys.drop 1,_,⟨rfl,rfl⟩,e6,by rw[map_drop];exact (hB.mono (s5.trans s6)).vls.drop 1,fun b hb=>List.mem_of_mem_drop hb,by rw[length_drop];lia,.inr ⟨b,aq,rfl,rfl⟩⟩
  rintro σ H5 ⟨s5,ac,ad,af,f1,rfl,ao,hV,am,d8,bd⟩
  have u5:=u4.trans s5
  walk_at "rd"
  refine⟨fun σ H6=>Same H5 H6∧∃nm f2:List Nat,σ=[some (.ref l),some (.int (kk:Int)),some (.int c),some (tV ae),some (tV nm),some (.ref pk),some (tV tx),some vb,some (.ref lm),some (.ref ad),some (tV f2),none,none,none,none,none]∧((nm=ae∧f2=[110,97,109,101])∨(nm=t.1∧f2=f1)),⟨by decide,ite2 (fun _=>⟨Same.refl _,ae,_,rfl,.inl ⟨rfl,rfl⟩⟩) (fun _=>⟨Same.refl _,t.1,f1,rfl,.inr ⟨rfl,rfl⟩⟩)⟩,?_⟩
  rintro σ H6 ⟨s6,nm,f2,rfl,cu⟩
  obtain⟨x,hx⟩:∃x,x=baseM (c / 2) tx:=⟨_,rfl⟩
  have bg:x.Wf:=by rw[hx];exact vqo ag (c / 2)
  have aj:=dh
  rw[<- hx] at aj
  obtain⟨pb,wb,qb,rfl,cn,fc,fe⟩:=wqn aj
  have v6:=((s3.trans s4).trans s5).trans s6
  walk_at "rd"
  refine⟨fun σ H7=>Same H6 H7∧∃f3:List Nat,σ=[some (.ref l),some (.int (kk:Int)),some (.int c),some (tV ae),some (tV nm),some (.ref pk),some (tV tx),some (.ref pb),some (.ref lm),some (.ref ad),some (tV f3),none,none,none,none,none]∧((x.scheme=[]∧f3=[98,97,115,101])∨(x.scheme≠[]∧f3=f2)),⟨_,_,.inr (.of (v6 _ _ cn)),aqs (j:=0) rfl,?_⟩,?_⟩
  ·refine aq0.mpr ⟨_,rfl,ite2 (fun h0=>⟨Same.refl _,_,rfl,.inl ⟨jqz.mp (of_decide_eq_true h0),rfl⟩⟩) (fun h0=>⟨Same.refl _,_,rfl,.inr ⟨fun z=>h0 (decide_eq_true (by rw[z])),rfl⟩⟩)⟩
  rintro σ H7 ⟨s7,f3,rfl,br⟩
  have v7:=v6.trans s7
  have w7:=s6.trans s7
  have a7:=(u5.trans s6).trans s7
  walk_at "rd"
  refine⟨_,.inl (.of (w7 _ _ ao)),fun lk H8 n8 s8 dz=>?_⟩
  have v8:=v7.trans s8
  have a8:=a7.trans s8
  have w8:=w7.trans s8
  have bt:(ac.map fun b:List Nat×Vl=>(b.1,vlD b.2)).length≤100000:=by rw[length_map];lia
  refine⟨fun σ H9=>Same H8 H9∧∃fv:V,σ=[some (.ref l),some (.int (kk:Int)),some (.int c),some (tV ae),some (tV nm),some (.ref pk),some (tV tx),some (.ref pb),some (.ref lm),some (.ref ad),some (tV f3),some (.ref lk),some fv,some (tV f3),none,none]∧((f3≠[]∧fv=.non)∨(f3=[]∧x.scheme≠[]∧ac=bs∧ad=lv∧af=ys∧∃pa pw qw:Addr,fv=.ref pa∧H9 qw=some (.tup ((stpsM t.2.1 bs).map tV))∧H9 pw=some (.tup [.bl true,.ref qw,.bl t.2.2])∧H9 pa=some (.tup [tV x.scheme,otV x.house,itV x.door,.ref pw,vq,otV (marU (c / 11) tx)]))),?_,?_⟩
  ·refine⟨l,ad,lm,T,ws,nm,_,af,ms,x,.ref pb,vq,otV (marU (c / 11) tx),queU (c / 11) tx,marU (c / 11) tx,rfl,aj.mono v8.toT,a8 _ _ hl,hT.mono a8.toT,dq,w8 _ _ ao,hV.mono w8,bt,fun w hw=>?_,(((s4.trans s5).trans s6).trans (s7.trans s8)) _ _ cv,?_,fun h0 p H9 s9 e9=>?_,fun h0=>⟨fun hn p H9 s9 e9=>?_,fun t' al=>?_⟩⟩
   ·obtain⟨b,hb,rfl⟩:=mem_map.mp hw
    exact (bf b (am b hb)).small
   ·rcases bq with h|h
    ·exact .inl h
    ·exact .inr ⟨h,cg.mono (((s4.trans s5).trans s6).trans (s7.trans s8)).toT,uqw _,qqa ag _,pqR ag _⟩
   ·have e3:f3=[98,97,115,101]:=by
     rcases br with h|h
     ·exact h.2
     ·exact absurd h0 h.1
    rw[eB] at e9
    exact⟨p,_,rfl,.of e9,rfl,_,_,rfl,_,_,rfl,rfl,s9,.non,by rw[e3],.inl ⟨by rw[e3];decide,rfl⟩⟩
   ·have e2:f2=[110,97,109,101]:=by
     rcases cu with h|h
     ·exact h.2
     ·rw[h.1,bc] at hn;cases hn
    have e3:f3=[110,97,109,101]:=by
     rcases br with h|h
     ·exact absurd h.1 h0
     ·rw[h.2,e2]
    rw[eN] at e9
    exact⟨p,_,rfl,.of e9,rfl,_,_,rfl,_,_,rfl,rfl,s9,.non,by rw[e3],.inl ⟨by rw[e3];decide,rfl⟩⟩
   ·have h1:nm=t.1∧f2=f1:=by
     rcases cu with h|h
     ·rw[h.1,bp] at al;cases al
     ·exact h
    have h3:f3=f1:=by
     rcases br with h|h
     ·exact absurd h.1 h0
     ·rw[h.2,h1.2]
    rw[h1.1,bc] at al
    cases al
    rcases bd with⟨rfl,rfl,rfl,h4⟩|⟨b,aq,h5,h4⟩
    ·have bi:=xqH hG ar t3 g1
     refine⟨fun ss ax p pa pw qw H9 s9 e1 e2 e3 e4=>?_,fun z hz=>(by rw[bi] at hz;cases hz)⟩
     rw[bi] at ax
     cases ax
     rw[h3,h4]
     exact⟨p,_,rfl,.of e4,rfl,_,_,rfl,_,_,rfl,rfl,s9,_,rfl,.inr ⟨rfl,h0,rfl,rfl,rfl,pa,pw,qw,rfl,e1,e2,e3⟩⟩
    ·have bi:=rqO hG ar g1 aq
     rw[take_zero,nil_append,<- h5] at bi
     refine⟨fun ss ax=>(by rw[bi] at ax;cases ax),fun z hz=>?_⟩
     rw[bi] at hz
     cases hz
     have:=cx b (mem_of_getElem? aq)
     rw[h3,h4]
     exact⟨by lia,fun p H9 s9 e9=>⟨p,_,rfl,.of e9,rfl,_,_,rfl,_,_,rfl,rfl,s9,.non,rfl,.inl ⟨by simp,rfl⟩⟩⟩
  rintro σ H9 ⟨s9,fv,rfl,d7⟩
  have v9:=v8.trans s9
  have a9:=a8.trans s9
  have w9:=w8.trans s9
  walk_at "rd"
  have ca:SeqAt.shaped (bndD ac)=true:=(rqd (fun b hb=>be b (am b hb)) (fun b hb=>bf b (am b hb))).shaped (by decide)
  refine⟨bndD ac,bndD ac,.lst (w9 _ _ ao) (hV.mono w9).isAll,.lst (s9 _ _ dz) (hV.mono w9).isAll,ca,ca,_,rfl,?_⟩
  rw[vqh]
  refine ite2 (fun z=>by cases z) (fun _=>⟨⟨by decide,by decide⟩,c / 2,tx,rfl,ag,fun eu da ai cz=>?_⟩)
  rw[<- hx] at cz
  have db:=v9.trans ai
  have c9:=a9.trans ai
  refine⟨x.data,x.data,(aj.mono db.toT).is,cz.is,bg.shaped,bg.shaped,_,rfl,?_⟩
  rw[(Ad.eqv_iff x x).mpr rfl]
  refine ite2 (fun z=>by cases z) (fun _=>?_)
  rcases d7 with⟨h3,rfl⟩|⟨h3,dk,rfl,rfl,rfl,pa,pw,qw,rfl,dl,dm,cq⟩
  ·exact ite2 (fun _=>k da c9) (fun z=>absurd (jqz.mp (Classical.not_not.mp z)) h3)
  refine ite2 (fun z=>absurd (by rw[h3]) z) (fun _=>?_)
  obtain⟨y,hy⟩:∃y,y=madeA x (stpsM t.2.1 ac) t.2.2 (queU (c / 11) tx) (marU (c / 11) tx):=⟨_,rfl⟩
  have gA:=qqP hG ar t3
  obtain⟨ez,de⟩:=Aq2 hG ar bo
  have bx:∀s∈stpsM t.2.1 ac,StepOk s:=fun s hs=>⟨length_pos_iff.mpr (gA.sg s hs).1.1,(gA.sg s hs).1.2⟩
  have aw:stpsM t.2.1 ac=[]->t.2.2=true:=fun z=>di (length_eq_zero_iff.mp (by have:=gA.le;rw[z,length_nil] at this;lia))
  have ah:y.Wf:=by rw[hy];exact qqC bg bx aw (qqa ag _) (pqR ag _)
  have bn:y.Sz:=by rw[hy];exact uqF bg bx aw (qqa ag _) (pqR ag _) de (by lia)
  have cb:∀{H':Hp}{p1 p2 p3:Addr},Same H3 H'->H' p3=some (.tup ((stpsM t.2.1 ac).map tV))->H' p2=some (.tup [.bl true,.ref p3,.bl t.2.2])->H' p1=some (.tup [tV x.scheme,otV x.house,itV x.door,.ref p2,vq,otV (marU (c / 11) tx)])->IsT H' y.data (.ref p1):=fun {H' p1 p2 p3} s' f3 f2 f1=>by
   rw[hy]
   exact adT (x:=madeA x (stpsM t.2.1 ac) t.2.2 (queU (c / 11) tx) (marU (c / 11) tx)) f1 (.tup f2 (.cons (.bl _) (.cons (.tup f3 (lq3 _)) (.cons (.bl _) .nil)))) (cg.mono s'.toT)
  have bv:Same H3 da:=(s4.trans s5).trans ((s6.trans s7).trans ((s8.trans s9).trans ai))
  have bw:Same H4 da:=s5.trans ((s6.trans s7).trans ((s8.trans s9).trans ai))
  have ap:=cb bv (ai _ _ dl) (ai _ _ dm) (ai _ _ cq)
  refine⟨fun σ bj=>Same da bj∧∃vd:V,σ=[some (.ref l),some (.int (kk:Int)),some (.int c),some (tV ae),some (tV nm),some (.ref pk),some (tV tx),some (.ref pb),some (.ref lm),some (.ref ad),some (tV f3),some (.ref lk),some (.ref pa),some (tV f3),some vd,none]∧IsT bj y.data vd,⟨_,db _ _ cn,fun p1 G1 r1 e1=>?_⟩,?_⟩
  ·rw[show (some (3:Int))=some ((3:Nat):Int) from rfl,kq9] at e1
   refine⟨t.2.1,t.2.2,pk,ad,ad,ac,af,rfl,cm.mono (c9.trans r1).toT,ar,t3,by lia,hG,g1,(bw.trans r1) _ _ az,hB.mono (bw.trans r1),fun p2 p3 G2 r2 e2 e3=>⟨by decide,fun p4 G4 m4 r4 e4=>?_⟩⟩
   refine .inr ⟨_,_,(r2.trans r4) _ _ e1,e4,(show 3+1≤sizeLine by decide),fun p5 G5 r5 e5=>⟨by decide,fun p6 G6 m6 r6 e6=>?_⟩⟩
   have q6:=(((r1.trans r2).trans r4).trans r5).trans r6
   have ff:ms.length≤2:=by
    rcases bq with⟨h,_⟩|h
    ·rw[h];exact Nat.zero_le _
    ·rw[h];exact Nat.le_refl _
   have dy:(ms++[V.non,V.non]).take 2=[vq,otV (marU (c / 11) tx)]:=by
    rcases bq with⟨h,h',eh⟩|h
    ·rw[h,h',eh];rfl
    ·rw[h];rfl
   refine .inl ⟨_,_,(bv.trans q6) _ _ cv,e6,aqq (by simp only[length_cons,length_nil];lia),fun p7 G7 m7 r7 e7=>?_⟩
   walk_at "rd"
   refine⟨_,.inl (.of e7),fun p8 G8 r8 e8=>⟨_,e8,fun p9 G9 r9 e9=>?_⟩⟩
   rw[show (some (2:Int))=some ((2:Nat):Int) from rfl,kq9,dy] at e9
   refine .inr ⟨_,_,(((r6.trans r7).trans r8).trans r9) _ _ e5,e9,(show 4+2≤sizeLine by decide),fun q1 fj df ek=>?_⟩
   have b8:=((r7.trans r8).trans r9).trans df
   have q4:=((r4.trans r5).trans r6).trans b8
   exact⟨q6.trans b8,cb (bv.trans (q6.trans b8)) (q4 _ _ e3) (q4 _ _ e2) ek⟩
  rintro σ bj ⟨bh,vd,rfl,ci⟩
  walk_at "rd"
  have kp:kindV (.ref pa) bj=some "tuple" := by simp only[kindV,bh _ _ (ai _ _ cq)]
  refine⟨_,kp,ite2 (fun z=>absurd z (by decide)) (fun _=>⟨y.data,y.data,(ap.mono bh.toT).is,ci.is,ah.shaped,ah.shaped,_,rfl,?_⟩)⟩
  rw[(Ad.eqv_iff y y).mpr rfl]
  refine ite2 (fun z=>by cases z) (fun _=>⟨y,_,rfl,(ap.mono bh.toT).k,ah,bn,fun er b7=>?_⟩)
  have el:=(c9.trans bh).trans b7
  walk_at "rd"
  refine⟨aqq (Nat.le_trans bn.all (by decide)),ite2 (fun _=>k er el) (fun _=>⟨y,y.shw,rfl,bn.all,yqQ ah,ah,yqY ah,fun u eo bz hu=>⟨y.data,y.data,hu.is,(ci.mono (b7.trans bz).toT).is,ah.shaped,ah.shaped,?_⟩⟩)⟩
  rw[(Ad.eqv_iff y y).mpr rfl]
  exact k eo (el.trans bz)
theorem yq0 (g:G K mg):FnOk P w K mg base CX0 12 g.vqC g.oq5 ["_law_script"] (rqc K):=by
 refine g.AqF.ok hq4 (fun vs H Q E h=>?_) (fun bn A ap s H vs Q E hr h=>?_)
 ·obtain⟨a,ns,rfl,_⟩:=h;rfl
 ·obtain⟨a,ns,rfl,hS,hn,k⟩:=h
  refine⟨_,(aqc (aqk (i:=1) hq4.nd rfl (Or.inl rfl) (aqi aqJ (aqf (bqg g) (hr.mono (by decide)) rfl g.bqa g.aqY.kp g.aq9 .nil pass0 (aqa (pv 0) (aqa aqd aqb))) aqd))
   (aqE (aqk (i:=2) hq4.nd rfl (Or.inl rfl) (aqf (jqa g) (hr.mono (by decide)) rfl g.gq6 g.eqW.kp g.hqg .nil pass0 (aqa (aqi aqz (aqf (bqg g) (hr.mono (by decide)) rfl g.bqa g.aqY.kp g.aq9 .nil pass0 (aqa (pv 0) (aqa aqd aqb))) aqd) (aqa aqd aqb))))
   (aqE (aqk (i:=3) hq4.nd rfl (Or.inl rfl) (aqf (oqe g) (hr.mono (by decide)) rfl g.kqd g.hqi.kp g.kqj .nil pass0 (aqa (pv 0) (aqa (aqf (jqa g) (hr.mono (by decide)) rfl g.gq6 g.eqW.kp g.hqg .nil pass0 (aqa (aqf (bqg g) (hr.mono (by decide)) rfl g.bqa g.aqY.kp g.aq9 .nil pass0 (aqa (pv 0) (aqa aqd aqb))) (aqa aqd aqb))) (aqa (pv 2) (aqa aqd (aqa (pv 1) aqb)))))))
   (aqc (aqk (i:=4) hq4.nd rfl (Or.inl rfl) (aq8 (mqT (K:=K) rfl) rfl g.qqQ pq9 (aqa (pv 3) aqb)))
   (aqE (aqk (i:=5) hq4.nd rfl (Or.inl rfl) (aqw (aqh (K:=K) rfl) (aqG (aqa (aqw (aqh (K:=K) rfl) (pv 2) aqd (fun _ _=>rfl)) (aqa aqg (aqa aqg aqb)))) (aqi aqJ (aqi aqz (aqf (bqg g) (hr.mono (by decide)) rfl g.bqa g.aqY.kp g.aq9 .nil pass0 (aqa (pv 0) (aqa aqd aqb))) aqd) aqd) (fun _ _=>rfl)))
   (aqE (aqk (i:=6) hq4.nd rfl (Or.inl rfl) (aqi (aqB (K:=K)) (aqi (aqB (K:=K)) (aqG (aqa (aqf (bqg g) (hr.mono (by decide)) rfl g.bqa g.aqY.kp g.aq9 .nil pass0 (aqa (pv 0) (aqa aqd aqb))) aqb)) (cq4 (nqh (K:=K) rfl) (pv 0) (cqR aqd) (cqR (aqi (aqB (K:=K)) aqd (pv 1))))) (cq4 (nqh (K:=K) rfl) (pv 0) (cqR aqd) (cqR aqd))))
   (aqc (gq1 PassesOwn.never rfl (qqx (K:=K) rfl rfl g.iqf (aqa (pv 6) aqb)) (iql (n:=2) (K:=K) rfl rfl (bqe (aqX (i:=7) hq4.nd rfl (Or.inl rfl)) (bqe (aqX (i:=8) hq4.nd rfl (Or.inl rfl)) gqU)))
   (aqe (aqN (PW.pt (gqu (aqj oqb (pv 1) aqd (nomark _)) (eqp (dqm (bqb (aqf (nqr g) (hr.mono (by decide)) rfl g.kqs g.gq9.kp g.kqm .nil pass0 (aqa (pv 3) (aqa (aqi aqJ (aqi (aqB (K:=K)) (pv 8) (pv 7)) (pv 1)) (aqa (pv 8) (aqa (pv 5) aqb))))))))))
    (aqe (aql kqJ)) aqr)))
   (aqc (aqk (i:=9) hq4.nd rfl (Or.inl rfl) (aqy (aqa aqg (aqa aqM (aqa aqM (aqa (aqy (aqa kqJ (aqa (aqy aqb) (aqa kqJ aqb)))) (aqa aqM (aqa aqM aqb))))))))
   (aqe (aql (fqu (aq5 (nqa hr.units) (pv 3) (pv 4) (nomark _)) (dqp (aq5 (nqa hr.units) (aqf (kqA g) (hr.mono (by decide)) rfl g.iqu g.gqe.kp g.iqg .nil pass0 (aqa (pv 3) (aqa (pv 9) (aqa (pv 5) (aqa (aqG aqb) (aqa (aqG aqb) aqb)))))) (aqy (aqa aqM (aqa aqg aqb))) (nomark _)))))))))))))),?_⟩
  have eA:Str.ofString "A"=⟨[65].toArray⟩:=by decide +kernel
  have eX:Str.ofString "x"=⟨[120].toArray⟩:=by decide +kernel
  rw[eA,eX]
  walk_at "rd"
  refine⟨a,ns,1,rfl,hS,?_⟩
  obtain⟨m,hm,em⟩:∃m:Nat,m≤8∧ns.getD 1 0 % 9=(m:Int):=⟨(ns.getD 1 0 % 9).toNat,by lia,by lia⟩
  walk_at "rd"
  rw[em]
  refine⟨by decide,fun σ H1=>Same H H1∧∃(lb:List (List Nat)) (pl:Addr),σ=[some (.ref a),some (.int (m:Int)),some (.ref pl),none,none,none,none,none,none,none]∧H1 pl=some (.lst (lb.map tV))∧lb.length=17∧(∀n∈lb,0 < n.length∧n.all isSma=true)∧lb.Nodup,⟨a,ns,1,rfl,hS,?_⟩,?_⟩
  ·walk_at "rd"
   exact⟨⟨by decide,by decide⟩,_,17,rfl,by decide,fun nm pn H1 h1 h2 h3 s1 h4=>⟨s1,nm,pn,rfl,h4,h1,fun n ac=>⟨(h2 n ac).1,(h2 n ac).2.2⟩,h3⟩⟩
  rintro σ H1 ⟨s1,lb,pl,rfl,af,bj,av,aj⟩
  walk_at "rd"
  refine⟨fun σ H2=>Same H H2∧∃(T:List Rw) (ws:List V) (l:Addr) (nm:List (List Nat)),σ=[some (.ref a),some (.int (m:Int)),some (.ref pl),some (.ref l),none,none,none,none,none,none]∧H2 pl=some (.lst (lb.map tV))∧H2 l=some (.lst ws)∧TbV H2 T ws∧TabOk T∧T.length=m∧nm.length=6∧(∀n∈nm,0 < n.length∧n.length≤8)∧nm.Nodup∧(∀t∈T,NmP nm t.2.1)∧T.map (·.1)=lb.take m∧(∀t∈T,t.2.1=[]->t.2.2=true),⟨a,ns,0,rfl,s1.seq hS,_,6,rfl,by decide,fun nm pn H2 h1 h2 h3 s2 h4=>⟨a,pn,pl,ns,nm,lb,m,rfl,(s1.trans s2).seq hS,h4,h1,fun n ac=>qqj (h2 n ac).2.2,s2 _ _ af,by lia,fun n ac=>qqj (av n ac).2,by lia,fun T ws l H3 nl s3 hl hT ae ax al ai am=>⟨(s1.trans s2).trans s3,T,ws,l,nm,rfl,(s2.trans s3) _ _ af,hl,hT,ae,ax,h1,fun n ac=>⟨(h2 n ac).1,(h2 n ac).2.1⟩,h3,al,ai,am⟩⟩⟩,?_⟩
  clear af
  rintro σ H2 ⟨s2,T,ws,l,nm,rfl,af,hl,hT,ae,ax,bi,au,bd,al,ai,am⟩
  have hwl:=hT.length
  have bg:(T.map (·.1)).Nodup:=by rw[ai];exact (List.take_sublist m lb).nodup aj
  have bf:∀t∈T,((gapsM t.2.1).Nodup∧[]∉gapsM t.2.1∧∀n∈gapsM t.2.1,n.length≤8)∧(t.2.1=[]->t.2.2=true):=fun t ht=>by
   obtain⟨g1,g2⟩:=nqc bd (cs:=t.2.1) 0 (fun i c hc hs=>by rw[Nat.zero_add];exact al t ht i c hc hs)
   refine⟨⟨g1,fun z=>?_,fun n ac=>?_⟩,am t ht⟩
   ·obtain⟨j,_,hj⟩:=g2 _ z
    have:=(au _ (mem_of_getElem? hj)).1
    exact absurd this (by decide)
   ·obtain⟨j,_,hj⟩:=g2 _ ac
    exact (au _ (mem_of_getElem? hj)).2
  have bc:∀t∈T,PcsOk t.2.1:=fun t ht=>(ae t ht).2.1
  obtain⟨ah,ay⟩:∃n,lb[16]?=some n:=⟨_,List.getElem?_eq_getElem (by lia)⟩
  have no:∀n:List Nat,n∈[ah,[],[65]]->T.find? (fun t=>decide (t.1=n))=none:=fun n ac=>by
   rw[List.find?_eq_none]
   intro t ht hd
   have e:t.1=n:=of_decide_eq_true hd
   have h1:n∈lb.take m:=by rw[<- ai,<- e];exact mem_map_of_mem ht
   have h2:=av n (mem_of_mem_take h1)
   simp only[mem_cons,not_mem_nil,or_false] at ac
   rcases ac with rfl|rfl|rfl
   ·obtain⟨i,hi,ei⟩:=List.getElem_of_mem h1
    rw[length_take] at hi
    have h3:lb[i]?=some n:=by rw[<- List.getElem?_take_of_lt (show i < m by lia)];exact List.getElem?_eq_some_iff.mpr ⟨by rw[length_take];exact hi,ei⟩
    obtain⟨a1,a2⟩:=List.getElem?_eq_some_iff.mp h3
    obtain⟨b1,b2⟩:=List.getElem?_eq_some_iff.mp ay
    rw[List.nodup_iff_pairwise_ne,List.pairwise_iff_getElem] at aj
    exact aj i 16 a1 b1 (by lia) (a2.trans b2.symm)
   ·exact absurd h2.1 (by decide)
   ·exact absurd h2.2 (by decide)
  walk_at "rd"
  refine⟨_,.inl (.of hl),fun lk H3 n3 s3 be=>?_⟩
  have u3:=s2.trans s3
  refine⟨fun σ H4=>Same H3 H4∧∃ad:List Nat,σ=[some (.ref a),some (.int (m:Int)),some (.ref pl),some (.ref l),some (.ref lk),some (tV ad),none,none,none,none]∧ad∈[ah,[],[65]],⟨_,_,.inl (.of (s3 _ _ af)),aqs (j:=16) (by rw[List.getElem?_map,ay];rfl),by decide,fun p4 H4 n4 s4 e4=>⟨a,ns,1,rfl,(u3.trans s4).seq hS,?_⟩⟩,?_⟩
  ·walk_at "rd"
   refine⟨⟨by decide,by decide⟩,by decide,_,_,.inl (.of e4),jq4 [ah,[],[65]] tV [] (ns.getD 1 0 / 153) 3 rfl (by decide),s4,_,rfl,?_⟩
   exact cqZ (P:=fun n:List Nat=>n∈[ah,[],[65]]) _ (by simp) fun n h=>h
  rintro σ H4 ⟨s4,ad,rfl,ag⟩
  have u4:=u3.trans s4
  walk_at "rd"
  refine⟨fun σ H5=>Same H4 H5∧∃(is:List Int) (pc:Addr),σ=[some (.ref a),some (.int (m:Int)),some (.ref pl),some (.ref l),some (.ref lk),some (tV ad),some (.ref pc),none,none,none]∧H5 pc=some (.lst (is.map V.int)),⟨a,ns,2,rfl,u4.seq hS,by decide,fun p5 H5 n5 s5 e5=>⟨_,(u4.trans s5).seq hS,fun p6 H6 n6 s6 e6=>?_⟩⟩,?_⟩
  ·rw[qqp] at e6
   have c1:=qqG ns (some 3) (some (3+(m:Int)))
   have c2:=qqG ns (some 12) (some 52)
   refine .inl ⟨_,_,s6 _ _ e5,e6,aqq (by rw[length_map];simp only[length_cons,length_nil];lia),fun p7 H7 n7 s7 e7=>⟨_,(((u4.trans s5).trans s6).trans s7).seq hS,fun p8 H8 n8 s8 e8=>?_⟩⟩
   rw[qqp] at e8
   refine .inl ⟨_,_,s8 _ _ e7,e8,aqq (by rw[length_append,length_map,length_map];simp only[length_cons,length_nil];lia),fun p9 H9 n9 s9 e9=>⟨((s5.trans s6).trans s7).trans (s8.trans s9),[ns.getD 2 0]++cutA ns (some 3) (some (3+(m:Int)))++cutA ns (some 12) (some 52),p9,rfl,by rw[e9,map_append,map_append];rfl⟩⟩
  rintro σ H5 ⟨s5,is,pc,rfl,ar⟩
  have w5:=(s3.trans s4).trans s5
  have aw:=w5 _ _ hl
  have ao:=hT.mono w5.toT
  walk_at "rd"
  refine⟨pc,_,rfl,.of ar,?_⟩
  refine mq2 (xs:=is.map V.int) (fun i σ H'=>Same H5 H'∧∃v7 v8:Option V,σ=[some (.ref a),some (.int (m:Int)),some (.ref pl),some (.ref l),some (.ref lk),some (tV ad),some (.ref pc),v7,v8,none]) ⟨Same.refl _,_,_,rfl⟩ (fun i σ H' _ h=>.of (h.1 _ _ ar)) ?_ ?_
  rotate_left
  ·rintro σ H6 ⟨s6,v7,v8,rfl⟩
   walk_at "rd"
   obtain⟨x0,aq⟩:∃x:Ad,x={ scheme:=[120],house:=none,door:=none,rooted:=true,steps:=[],ends:=true,quest:=none,mark:=none}:=⟨_,rfl⟩
   refine⟨by decide,fun q1 G1 m1 r1 g1=>⟨by decide,fun q2 G2 m2 r2 g2=>⟨by decide,fun q3 G3 m3 r3 g3=>?_⟩⟩⟩
   have b3:=s6.trans ((r1.trans r2).trans r3)
   refine⟨.list (T.map rwD),.list (T.map rwD),.lst (b3 _ _ aw) (ao.mono b3.toT).isAll,.lst (((s4.trans s5).trans b3) _ _ be) (ao.mono b3.toT).isAll,tqr ae,tqr ae,?_⟩
   rw[zqj]
   refine⟨_,rfl,ite2 (fun _=>⟨by decide,fun q4 G4 m4 r4 g4=>⟨by decide,fun q5 G5 m5 r5 g5=>?_⟩⟩) (fun z=>absurd rfl z)⟩
   have b5:=b3.trans (r4.trans r5)
   have hx:IsT G5 x0.data (.ref q3):=by
    rw[aq]
    exact adT (x:={ scheme:=[120],house:=none,door:=none,rooted:=true,steps:=[],ends:=true,quest:=none,mark:=none}) ((r4.trans r5) _ _ g3) (.tup ((r3.trans (r4.trans r5)) _ _ g2) (.cons (.bl _) (.cons (.tup ((r2.trans (r3.trans (r4.trans r5))) _ _ g1) .nil) (.cons (.bl _) .nil)))) .non
   have az:x0.scheme≠[]:=by rw[aq];exact fun z=>(by cases z)
   refine⟨l,q4,q5,T,ws,ad,[],[],[],x0,.ref q3,.non,.non,none,none,rfl,hx,b5 _ _ aw,ao.mono b5.toT,bc,r5 _ _ g4,.nil,Nat.zero_le _,(fun w hw=>by cases hw),g5,.inl ⟨rfl,rfl,rfl⟩,fun z=>absurd z az,fun _=>⟨fun _ p7 G7 r7 g7=>⟨by decide,fun p8 G8 m8 r8 g8=>?_⟩,fun t ht=>(by rw[no ad ag] at ht;cases ht)⟩⟩
   have eN:Str.ofString "name"=⟨[110,97,109,101].toArray⟩:=by decide +kernel
   have lN:SeqAt.shaped (.tuple [.none,st [110,97,109,101]])=true:=by decide +kernel
   have qN:PyData.eqv (.tuple [.none,st [110,97,109,101]]) (.tuple [.none,st [110,97,109,101]])=true:=by decide +kernel
   rw[eN] at g7 g8
   refine⟨_,_,.tup (r8 _ _ g7) (.cons .non (.cons (.str _) .nil)),.tup g8 (.cons .non (.cons (.str _) .nil)),lN,lN,?_⟩
   unfold st at qN
   rw[qN]
   exact k G8
  rintro i v σ H6 T1 hv ⟨s6,v7,v8,rfl⟩ bh
  obtain⟨c,_,rfl⟩:=mem_map.mp (mem_of_getElem? hv)
  have sT:=s6.trans (bqc (o:=.tup [.int (i:Int),.int c]) bh)
  walk_at "rd"
  refine⟨T1,_,rfl,.of aqm,rfl,_,_,rfl,_,_,rfl,rfl,?_⟩
  generalize upd H6 T1 (.tup [.int (i:Int),.int c])=H7 at sT
  walk_at "rd"
  refine ite2 (fun h0=>⟨by lia,?_⟩) (fun _=>⟨sT,_,_,⟨rfl,rfl⟩⟩)
  obtain⟨j,hj,ej⟩:∃j:Nat,j < m∧(c+(i:Int)) % (m:Int)=(j:Int):=by
   have h1:=Int.emod_nonneg (c+(i:Int)) (show (m:Int)≠0 by lia)
   have h2:=Int.emod_lt_of_pos (c+(i:Int)) (show 0 < (m:Int) by lia)
   exact⟨((c+(i:Int)) % (m:Int)).toNat,by lia,by lia⟩
  rw[ej]
  exact⟨l,T,ws,j,_,ad,rfl,sT _ _ aw,ao.mono sT.toT,ae,by lia,bg,bf,by lia,no ad ag,fun H8 s8=>⟨_,rfl,ite2 (fun z=>by cases z) (fun _=>⟨sT.trans s8,_,_,⟨rfl,rfl⟩⟩)⟩⟩
end
def usl0 {us:List Value}(h:us.length=0):us=[]:=length_eq_zero_iff.mp h
local macro_rules|`(tactic| walk_at "b0")=>`(tactic| exact fun _ _ _ _ _ _ us hl=>by obtain e:=usl0 hl;subst e;rfl)
def usl1 {us:List Value}(h:us.length=1):∃x0,us=[x0]:=List.length_eq_one_iff.mp h
local macro_rules|`(tactic| walk_at "b1")=>`(tactic| exact fun _ _ _ _ _ _ us hl=>by obtain⟨x0,e⟩:=usl1 hl;subst e;rfl)
theorem usl2 {us:List Value}(h:us.length=2):∃x0 x1,us=[x0,x1]:=by
 cases us with
 |nil=>cases h
 |cons x0 l=>
  obtain⟨x1,rfl⟩:=usl1 (Nat.succ.inj h)
  exact⟨_,_,rfl⟩
local macro_rules|`(tactic| walk_at "b2")=>`(tactic| exact fun _ _ _ _ _ _ us hl=>by obtain⟨x0,x1,e⟩:=usl2 hl;subst e;rfl)
theorem usl3 {us:List Value}(h:us.length=3):∃x0 x1 x2,us=[x0,x1,x2]:=by
 cases us with
 |nil=>cases h
 |cons x0 l=>
  obtain⟨x1,x2,rfl⟩:=usl2 (Nat.succ.inj h)
  exact⟨_,_,_,rfl⟩
local macro_rules|`(tactic| walk_at "b3")=>`(tactic| exact fun _ _ _ _ _ _ us hl=>by obtain⟨x0,x1,x2,e⟩:=usl3 hl;subst e;rfl)
theorem usl4 {us:List Value}(h:us.length=4):∃x0 x1 x2 x3,us=[x0,x1,x2,x3]:=by
 cases us with
 |nil=>cases h
 |cons x0 l=>
  obtain⟨x1,x2,x3,rfl⟩:=usl3 (Nat.succ.inj h)
  exact⟨_,_,_,_,rfl⟩
local macro_rules|`(tactic| walk_at "b4")=>`(tactic| exact fun _ _ _ _ _ _ us hl=>by obtain⟨x0,x1,x2,x3,e⟩:=usl4 hl;subst e;rfl)
theorem usl5 {us:List Value}(h:us.length=5):∃x0 x1 x2 x3 x4,us=[x0,x1,x2,x3,x4]:=by
 cases us with
 |nil=>cases h
 |cons x0 l=>
  obtain⟨x1,x2,x3,x4,rfl⟩:=usl4 (Nat.succ.inj h)
  exact⟨_,_,_,_,_,rfl⟩
local macro_rules|`(tactic| walk_at "b5")=>`(tactic| exact fun _ _ _ _ _ _ us hl=>by obtain⟨x0,x1,x2,x3,x4,e⟩:=usl5 hl;subst e;rfl)
theorem usl6 {us:List Value}(h:us.length=6):∃x0 x1 x2 x3 x4 x5,us=[x0,x1,x2,x3,x4,x5]:=by
 cases us with
 |nil=>cases h
 |cons x0 l=>
  obtain⟨x1,x2,x3,x4,x5,rfl⟩:=usl5 (Nat.succ.inj h)
  exact⟨_,_,_,_,_,_,rfl⟩
local macro_rules|`(tactic| walk_at "b6")=>`(tactic| exact fun _ _ _ _ _ _ us hl=>by obtain⟨x0,x1,x2,x3,x4,x5,e⟩:=usl6 hl;subst e;rfl)
abbrev fo (n:Str)(s:Stmt)(d k a b:Value)(e:Option Addr)(c t:Value):FuncData:=W.fnOf n n (defArgs s) (defBody s) (defScope s) d k a b e c t
theorem zqF {l:PySem.W.OpenLaw}{w:World}{K:W.Frag}{h:Heap}{mg:Str->Option Value}{fa:Addr}(X:K.In h)(Gl:h.Ns mainGlobals mg)(hfa:mg "law"=some (.ref fa))
  {kC_Cursor:Addr} (aC_Cursor:W.nsIn K mainGlobals "Cursor"=some (some (.ref kC_Cursor)))
  {eC_NoBase:Addr} (en_NoBase:W.nsIn K mainGlobals "NoBase"=some (some (.ref eC_NoBase)))
  {eC_NoName:Addr} (en_NoName:W.nsIn K mainGlobals "NoName"=some (some (.ref eC_NoName)))
  {eC_NoValue:Addr} (en_NoValue:W.nsIn K mainGlobals "NoValue"=some (some (.ref eC_NoValue)))
  (a1:W.nsIn K mainGlobals "made_of"=some (some (.ref f1))) (l1:K.lookup f1=some ⟨oc1,od1,.func (fo "made_of" iqQ .none kV1 dc1 pm1 an1 cd1 ct1),sl1⟩)
  (a2:W.nsIn K mainGlobals "pair_of"=some (some (.ref f2))) (l2:K.lookup f2=some ⟨oc2,od2,.func (fo "pair_of" jqd .none kV2 dc2 pm2 an2 cd2 ct2),sl2⟩)
  (a3:W.nsIn K mainGlobals "figure_number"=some (some (.ref f3))) (l3:K.lookup f3=some ⟨oc3,od3,.func (fo "figure_number" cqE .none kV3 dc3 pm3 an3 cd3 ct3),sl3⟩)
  (a4:W.nsIn K mainGlobals "sign_numbered"=some (some (.ref f4))) (l4:K.lookup f4=some ⟨oc4,od4,.func (fo "sign_numbered" cqD .none kV4 dc4 pm4 an4 cd4 ct4),sl4⟩)
  (a5:W.nsIn K mainGlobals "is_whole"=some (some (.ref f5))) (l5:K.lookup f5=some ⟨oc5,od5,.func (fo "is_whole" hqM .none kV5 dc5 pm5 an5 cd5 ct5),sl5⟩)
  (a6:W.nsIn K mainGlobals "is_whole_number"=some (some (.ref f6))) (l6:K.lookup f6=some ⟨oc6,od6,.func (fo "is_whole_number" bqP .none kV6 dc6 pm6 an6 cd6 ct6),sl6⟩)
  (a7:W.findIn K (.ref eC_NoValue) "__init__"=some (some (.ref f7))) (i7:W.isFn K (.ref f7)=true) (l7:K.lookup f7=some ⟨oc7,od7,.func (W.fnOf "__init__" "NoValue.__init__" (defArgs aqS) (defBody aqS) (defScope aqS) .none kV7 dc7 pm7 an7 cd7 ct7),sl7⟩)
  (a8:W.nsIn K mainGlobals "slashed"=some (some (.ref f8))) (l8:K.lookup f8=some ⟨oc8,od8,.func (fo "slashed" iqC .none kV8 dc8 pm8 an8 cd8 ct8),sl8⟩)
  (a9:W.nsIn K mainGlobals "is_dot"=some (some (.ref f9))) (l9:K.lookup f9=some ⟨oc9,od9,.func (fo "is_dot" kq5 .none kV9 dc9 pm9 an9 cd9 ct9),sl9⟩)
  (a10:W.nsIn K mainGlobals "is_gap"=some (some (.ref f10))) (l10:K.lookup f10=some ⟨oc10,od10,.func (fo "is_gap" kq7 .none kV10 dc10 pm10 an10 cd10 ct10),sl10⟩)
  (a11:W.nsIn K mainGlobals "name_of"=some (some (.ref f11))) (l11:K.lookup f11=some ⟨oc11,od11,.func (fo "name_of" jqr .none kV11 dc11 pm11 an11 cd11 ct11),sl11⟩)
  (a12:W.nsIn K mainGlobals "head_of"=some (some (.ref f12))) (l12:K.lookup f12=some ⟨oc12,od12,.func (fo "head_of" jqk .none kV12 dc12 pm12 an12 cd12 ct12),sl12⟩)
  (a13:W.nsIn K mainGlobals "tail_of"=some (some (.ref f13))) (l13:K.lookup f13=some ⟨oc13,od13,.func (fo "tail_of" jqb .none kV13 dc13 pm13 an13 cd13 ct13),sl13⟩)
  (a14:W.nsIn K mainGlobals "pattern_named"=some (some (.ref f14))) (l14:K.lookup f14=some ⟨oc14,od14,.func (fo "pattern_named" cqJ .none kV14 dc14 pm14 an14 cd14 ct14),sl14⟩)
  (a15:W.findIn K (.ref kC_Cursor) "__init__"=some (some (.ref f15))) (i15:W.isFn K (.ref f15)=true) (l15:K.lookup f15=some ⟨oc15,od15,.func (W.fnOf "__init__" "Cursor.__init__" (defArgs aqZ) (defBody aqZ) (defScope aqZ) .none kV15 dc15 pm15 an15 cd15 ct15),sl15⟩)
  (a16:W.findIn K (.ref kC_Cursor) "at_end"=some (some (.ref f16))) (i16:W.isFn K (.ref f16)=true) (l16:K.lookup f16=some ⟨oc16,od16,.func (W.fnOf "at_end" "Cursor.at_end" (defArgs bqf) (defBody bqf) (defScope bqf) .none kV16 dc16 pm16 an16 cd16 ct16),sl16⟩)
  (a17:W.findIn K (.ref kC_Cursor) "take"=some (some (.ref f17))) (i17:W.isFn K (.ref f17)=true) (l17:K.lookup f17=some ⟨oc17,od17,.func (W.fnOf "take" "Cursor.take" (defArgs bqV) (defBody bqV) (defScope bqV) .none kV17 dc17 pm17 an17 cd17 ct17),sl17⟩)
  (a18:W.findIn K (.ref kC_Cursor) "passes"=some (some (.ref f18))) (i18:W.isFn K (.ref f18)=true) (l18:K.lookup f18=some ⟨oc18,od18,.func (W.fnOf "passes" "Cursor.passes" (defArgs bqh) (defBody bqh) (defScope bqh) .none kV18 dc18 pm18 an18 cd18 ct18),sl18⟩)
  (a19:W.nsIn K mainGlobals "door_with"=some (some (.ref f19))) (l19:K.lookup f19=some ⟨oc19,od19,.func (fo "door_with" fq9 .none kV19 dc19 pm19 an19 cd19 ct19),sl19⟩)
  (a20:W.nsIn K mainGlobals "_law_cell_at"=some (some (.ref f20))) (l20:K.lookup f20=some ⟨oc20,od20,.func (fo "_law_cell_at" cq3 .none kV20 dc20 pm20 an20 cd20 ct20),sl20⟩)
  (a21:W.nsIn K mainGlobals "_law_names"=some (some (.ref f21))) (l21:K.lookup f21=some ⟨oc21,od21,.func (fo "_law_names" eqC .none kV21 dc21 pm21 an21 cd21 ct21),sl21⟩)
  (a22:W.nsIn K mainGlobals "_law_signs"=some (some (.ref f22))) (l22:K.lookup f22=some ⟨oc22,od22,.func (fo "_law_signs" eqN .none kV22 dc22 pm22 an22 cd22 ct22),sl22⟩)
  (a23:W.nsIn K mainGlobals "_law_gaps"=some (some (.ref f23))) (l23:K.lookup f23=some ⟨oc23,od23,.func (fo "_law_gaps" fqz .none kV23 dc23 pm23 an23 cd23 ct23),sl23⟩)
  (a24:W.nsIn K mainGlobals "_law_name_of"=some (some (.ref f24))) (l24:K.lookup f24=some ⟨oc24,od24,.func (fo "_law_name_of" cq8 .none kV24 dc24 pm24 an24 cd24 ct24),sl24⟩)
  (a25:W.nsIn K mainGlobals "_law_filled"=some (some (.ref f25))) (l25:K.lookup f25=some ⟨oc25,od25,.func (fo "_law_filled" dq7 .none kV25 dc25 pm25 an25 cd25 ct25),sl25⟩)
  (a26:W.nsIn K mainGlobals "_law_base"=some (some (.ref f26))) (l26:K.lookup f26=some ⟨oc26,od26,.func (fo "_law_base" fqE .none kV26 dc26 pm26 an26 cd26 ct26),sl26⟩)
  (a27:W.nsIn K mainGlobals "_law_more"=some (some (.ref f27))) (l27:K.lookup f27=some ⟨oc27,od27,.func (fo "_law_more" fq0 .none kV27 dc27 pm27 an27 cd27 ct27),sl27⟩)
  (a28:W.nsIn K mainGlobals "is_text"=some (some (.ref f28))) (l28:K.lookup f28=some ⟨oc28,od28,.func (fo "is_text" jqD .none kV28 dc28 pm28 an28 cd28 ct28),sl28⟩)
  (a29:W.nsIn K mainGlobals "sign_of"=some (some (.ref f29))) (l29:K.lookup f29=some ⟨oc29,od29,.func (fo "sign_of" iqB .none kV29 dc29 pm29 an29 cd29 ct29),sl29⟩)
  (a30:W.nsIn K mainGlobals "written"=some (some (.ref f30))) (l30:K.lookup f30=some ⟨oc30,od30,.func (fo "written" iqU .none kV30 dc30 pm30 an30 cd30 ct30),sl30⟩)
  (a31:W.nsIn K mainGlobals "names_of"=some (some (.ref f31))) (l31:K.lookup f31=some ⟨oc31,od31,.func (fo "names_of" hqK .none kV31 dc31 pm31 an31 cd31 ct31),sl31⟩)
  (a32:W.nsIn K mainGlobals "is_word"=some (some (.ref f32))) (l32:K.lookup f32=some ⟨oc32,od32,.func (fo "is_word" jqj .none kV32 dc32 pm32 an32 cd32 ct32),sl32⟩)
  (a33:W.nsIn K mainGlobals "steps_of_value"=some (some (.ref f33))) (l33:K.lookup f33=some ⟨oc33,od33,.func (fo "steps_of_value" bq5 .none kV33 dc33 pm33 an33 cd33 ct33),sl33⟩)
  (a34:W.findIn K (.ref kC_Cursor) "sees"=some (some (.ref f34))) (i34:W.isFn K (.ref f34)=true) (l34:K.lookup f34=some ⟨oc34,od34,.func (W.fnOf "sees" "Cursor.sees" (defArgs bqU) (defBody bqU) (defScope bqU) .none kV34 dc34 pm34 an34 cd34 ct34),sl34⟩)
  (a35:W.nsIn K mainGlobals "_law_text"=some (some (.ref f35))) (l35:K.lookup f35=some ⟨oc35,od35,.func (fo "_law_text" gqf .none kV35 dc35 pm35 an35 cd35 ct35),sl35⟩)
  (a36:W.nsIn K mainGlobals "is_scheme"=some (some (.ref f36))) (l36:K.lookup f36=some ⟨oc36,od36,.func (fo "is_scheme" fqX .none kV36 dc36 pm36 an36 cd36 ct36),sl36⟩)
  (a37:W.nsIn K mainGlobals "is_filled_text"=some (some (.ref f37))) (l37:K.lookup f37=some ⟨oc37,od37,.func (fo "is_filled_text" cqa .none kV37 dc37 pm37 an37 cd37 ct37),sl37⟩)
  (a38:W.nsIn K mainGlobals "shown_house"=some (some (.ref f38))) (l38:K.lookup f38=some ⟨oc38,od38,.func (fo "shown_house" dqH .none kV38 dc38 pm38 an38 cd38 ct38),sl38⟩)
  (a39:W.nsIn K mainGlobals "shown_way"=some (some (.ref f39))) (l39:K.lookup f39=some ⟨oc39,od39,.func (fo "shown_way" fqU .none kV39 dc39 pm39 an39 cd39 ct39),sl39⟩)
  (a40:W.nsIn K mainGlobals "shown_asked"=some (some (.ref f40))) (l40:K.lookup f40=some ⟨oc40,od40,.func (fo "shown_asked" dqP .none kV40 dc40 pm40 an40 cd40 ct40),sl40⟩)
  (a41:W.nsIn K mainGlobals "shown_mark"=some (some (.ref f41))) (l41:K.lookup f41=some ⟨oc41,od41,.func (fo "shown_mark" eqK .none kV41 dc41 pm41 an41 cd41 ct41),sl41⟩)
  (a42:W.nsIn K mainGlobals "refuse_others"=some (some (.ref f42))) (l42:K.lookup f42=some ⟨oc42,od42,.func (fo "refuse_others" cqH .none kV42 dc42 pm42 an42 cd42 ct42),sl42⟩)
  (a43:W.nsIn K mainGlobals "taken_door"=some (some (.ref f43))) (l43:K.lookup f43=some ⟨oc43,od43,.func (fo "taken_door" fqa .none kV43 dc43 pm43 an43 cd43 ct43),sl43⟩)
  (a44:W.nsIn K mainGlobals "taken_pair"=some (some (.ref f44))) (l44:K.lookup f44=some ⟨oc44,od44,.func (fo "taken_pair" eqP .none kV44 dc44 pm44 an44 cd44 ct44),sl44⟩)
  (a45:W.nsIn K mainGlobals "_law_step"=some (some (.ref f45))) (l45:K.lookup f45=some ⟨oc45,od45,.func (fo "_law_step" gqd .none kV45 dc45 pm45 an45 cd45 ct45),sl45⟩)
  (a46:W.nsIn K mainGlobals "shown_question"=some (some (.ref f46))) (l46:K.lookup f46=some ⟨oc46,od46,.func (fo "shown_question" cqf .none kV46 dc46 pm46 an46 cd46 ct46),sl46⟩)
  (a47:W.nsIn K mainGlobals "can_be_step"=some (some (.ref f47))) (l47:K.lookup f47=some ⟨oc47,od47,.func (fo "can_be_step" dqZ .none kV47 dc47 pm47 an47 cd47 ct47),sl47⟩)
  (a48:W.nsIn K mainGlobals "taken_scheme"=some (some (.ref f48))) (l48:K.lookup f48=some ⟨oc48,od48,.func (fo "taken_scheme" cq2 .none kV48 dc48 pm48 an48 cd48 ct48),sl48⟩)
  {dt49_0:Tok}
  (a49:W.nsIn K mainGlobals "taken_text"=some (some (.ref f49))) (l49:K.lookup f49=some ⟨oc49,od49,.func (fo "taken_text" eqF (.ref T49) kV49 dc49 pm49 an49 cd49 ct49),sl49⟩)
  (d49:K.lookup T49=some ⟨ocT49,odT49,.seq #[.none] nT49,slT49⟩)
  (a50:W.nsIn K mainGlobals "_law_piece"=some (some (.ref f50))) (l50:K.lookup f50=some ⟨oc50,od50,.func (fo "_law_piece" eq5 .none kV50 dc50 pm50 an50 cd50 ct50),sl50⟩)
  (a51:W.nsIn K mainGlobals "_law_value"=some (some (.ref f51))) (l51:K.lookup f51=some ⟨oc51,od51,.func (fo "_law_value" eqT .none kV51 dc51 pm51 an51 cd51 ct51),sl51⟩)
  (a52:W.nsIn K mainGlobals "show"=some (some (.ref f52))) (l52:K.lookup f52=some ⟨oc52,od52,.func (fo "show" qqD .none kV52 dc52 pm52 an52 cd52 ct52),sl52⟩)
  (a53:W.nsIn K mainGlobals "is_value"=some (some (.ref f53))) (l53:K.lookup f53=some ⟨oc53,od53,.func (fo "is_value" hqL .none kV53 dc53 pm53 an53 cd53 ct53),sl53⟩)
  (a54:W.nsIn K mainGlobals "taken_way"=some (some (.ref f54))) (l54:K.lookup f54=some ⟨oc54,od54,.func (fo "taken_way" fqJ .none kV54 dc54 pm54 an54 cd54 ct54),sl54⟩)
  (a55:W.nsIn K mainGlobals "taken_value"=some (some (.ref f55))) (l55:K.lookup f55=some ⟨oc55,od55,.func (fo "taken_value" dqO .none kV55 dc55 pm55 an55 cd55 ct55),sl55⟩)
  (a56:W.nsIn K mainGlobals "taken_mark"=some (some (.ref f56))) (l56:K.lookup f56=some ⟨oc56,od56,.func (fo "taken_mark" eq9 .none kV56 dc56 pm56 an56 cd56 ct56),sl56⟩)
  {dt57_0:Tok}
  (a57:W.nsIn K mainGlobals "taken_filled_text"=some (some (.ref f57))) (l57:K.lookup f57=some ⟨oc57,od57,.func (fo "taken_filled_text" bqr (.ref T57) kV57 dc57 pm57 an57 cd57 ct57),sl57⟩)
  (d57:K.lookup T57=some ⟨ocT57,odT57,.seq #[.none] nT57,slT57⟩)
  (a58:W.nsIn K mainGlobals "_law_small"=some (some (.ref f58))) (l58:K.lookup f58=some ⟨oc58,od58,.func (fo "_law_small" eq1 .none kV58 dc58 pm58 an58 cd58 ct58),sl58⟩)
  (a59:W.nsIn K mainGlobals "_law_values"=some (some (.ref f59))) (l59:K.lookup f59=some ⟨oc59,od59,.func (fo "_law_values" dqS .none kV59 dc59 pm59 an59 cd59 ct59),sl59⟩)
  (a60:W.nsIn K mainGlobals "filled_steps"=some (some (.ref f60))) (l60:K.lookup f60=some ⟨oc60,od60,.func (fo "filled_steps" dqe .none kV60 dc60 pm60 an60 cd60 ct60),sl60⟩)
  (a61:W.nsIn K mainGlobals "taken_house"=some (some (.ref f61))) (l61:K.lookup f61=some ⟨oc61,od61,.func (fo "taken_house" dqN .none kV61 dc61 pm61 an61 cd61 ct61),sl61⟩)
  (a62:W.nsIn K mainGlobals "taken_question"=some (some (.ref f62))) (l62:K.lookup f62=some ⟨oc62,od62,.func (fo "taken_question" bq4 .none kV62 dc62 pm62 an62 cd62 ct62),sl62⟩)
  (a63:W.nsIn K mainGlobals "_law_table"=some (some (.ref f63))) (l63:K.lookup f63=some ⟨oc63,od63,.func (fo "_law_table" eqJ .none kV63 dc63 pm63 an63 cd63 ct63),sl63⟩)
  (a64:W.nsIn K mainGlobals "filled"=some (some (.ref f64))) (l64:K.lookup f64=some ⟨oc64,od64,.func (fo "filled" kqY .none kV64 dc64 pm64 an64 cd64 ct64),sl64⟩)
  (a65:W.nsIn K mainGlobals "read"=some (some (.ref f65))) (l65:K.lookup f65=some ⟨oc65,od65,.func (fo "read" rqr .none kV65 dc65 pm65 an65 cd65 ct65),sl65⟩)
  (a66:W.nsIn K mainGlobals "made"=some (some (.ref f66))) (l66:K.lookup f66=some ⟨oc66,od66,.func (fo "made" qqI .none kV66 dc66 pm66 an66 cd66 ct66),sl66⟩)
  {dt67_0:Tok}
  {dt67_1:Tok}
  (a67:W.nsIn K mainGlobals "made_address"=some (some (.ref f67))) (l67:K.lookup f67=some ⟨oc67,od67,.func (fo "made_address" cq7 (.ref T67) kV67 dc67 pm67 an67 cd67 ct67),sl67⟩)
  (d67:K.lookup T67=some ⟨ocT67,odT67,.seq #[.none,.none] nT67,slT67⟩)
  (a68:W.nsIn K mainGlobals "_law_told"=some (some (.ref f68))) (l68:K.lookup f68=some ⟨oc68,od68,.func (fo "_law_told" fqN .none kV68 dc68 pm68 an68 cd68 ct68),sl68⟩)
  (a69:W.nsIn K mainGlobals "_law_asked"=some (some (.ref f69))) (l69:K.lookup f69=some ⟨oc69,od69,.func (fo "_law_asked" eqD .none kV69 dc69 pm69 an69 cd69 ct69),sl69⟩)
  (a70:W.nsIn K mainGlobals "law"=some (some (.ref f70))) (l70:K.lookup f70=some ⟨oc70,od70,.func (fo "law" uqH .none kV70 dc70 pm70 an70 cd70 ct70),sl70⟩)
  {lqd:Tok} (e_SIGNS:W.nsIn K mainGlobals "SIGNS"=some (some (.str (Str.ofString " !\"#$&'()*+,-./0123456789:;<=>?@ABCDEFGHIJKLMNOPQRSTUVWXYZ[\\]^_`abcdefghijklmnopqrstuvwxyz{|}~") lqd)))
  {bqz:Tok} (e_SMALL_LETTERS:W.nsIn K mainGlobals "SMALL_LETTERS"=some (some (.str (Str.ofString "abcdefghijklmnopqrstuvwxyz") bqz)))
  {gqQ:Tok} (e_LETTERS:W.nsIn K mainGlobals "LETTERS"=some (some (.str (Str.ofString "abcdefghijklmnopqrstuvwxyzABCDEFGHIJKLMNOPQRSTUVWXYZ") gqQ)))
  {aqQ:Tok} (e_LETTERS_AND_FIGURES:W.nsIn K mainGlobals "LETTERS_AND_FIGURES"=some (some (.str (Str.ofString "abcdefghijklmnopqrstuvwxyzABCDEFGHIJKLMNOPQRSTUVWXYZ0123456789") aqQ)))
  {gqL:Tok} (e_FIGURES:W.nsIn K mainGlobals "FIGURES"=some (some (.str (Str.ofString "0123456789") gqL)))
  {lqp:Tok} (e_PLAIN:W.nsIn K mainGlobals "PLAIN"=some (some (.str (Str.ofString "abcdefghijklmnopqrstuvwxyzABCDEFGHIJKLMNOPQRSTUVWXYZ0123456789-_.") lqp)))
  {bqI:Tok} (e_FREE_IN_STEPS:W.nsIn K mainGlobals "FREE_IN_STEPS"=some (some (.str (Str.ofString "!$'()*,;@&=+") bqI)))
  {aq1:Tok} (e_FREE_IN_QUESTIONS:W.nsIn K mainGlobals "FREE_IN_QUESTIONS"=some (some (.str (Str.ofString "!$'()*,;@+/?:") aq1)))
  {bqD:Tok} (e_FREE_IN_MARKS:W.nsIn K mainGlobals "FREE_IN_MARKS"=some (some (.str (Str.ofString "!$'()*,;@&=+/?:") bqD)))
  {bq1:Tok} (e_FIRST_NUMBER:W.nsIn K mainGlobals "FIRST_NUMBER"=some (some (.int 32 bq1)))
  {cqG:Tok} (e_LAST_NUMBER:W.nsIn K mainGlobals "LAST_NUMBER"=some (some (.int 126 cqG)))
  {bqj:Tok} (e_NUMBER_LEFT_OUT:W.nsIn K mainGlobals "NUMBER_LEFT_OUT"=some (some (.int 37 bqj)))
  {bqB:Tok} (e_SMALL_FIGURES:W.nsIn K mainGlobals "SMALL_FIGURES"=some (some (.str (Str.ofString "0123456789abcdef") bqB)))
  {bqF:Tok} (e_GREAT_FIGURES:W.nsIn K mainGlobals "GREAT_FIGURES"=some (some (.str (Str.ofString "0123456789ABCDEF") bqF)))
  {jqg:Tok} (e_SCHEME:W.nsIn K mainGlobals "SCHEME"=some (some (.int 0 jqg)))
  {lqX:Tok} (e_HOUSE:W.nsIn K mainGlobals "HOUSE"=some (some (.int 1 lqX)))
  {oq6:Tok} (e_DOOR:W.nsIn K mainGlobals "DOOR"=some (some (.int 2 oq6)))
  {tqd:Tok} (e_WAY:W.nsIn K mainGlobals "WAY"=some (some (.int 3 tqd)))
  {fqv:Tok} (e_QUESTION:W.nsIn K mainGlobals "QUESTION"=some (some (.int 4 fqv)))
  {pqd:Tok} (e_MARK:W.nsIn K mainGlobals "MARK"=some (some (.int 5 pqd)))
  {iq5:Tok} (e_ROOTED:W.nsIn K mainGlobals "ROOTED"=some (some (.int 0 iq5)))
  {mqc:Tok} (e_STEPS:W.nsIn K mainGlobals "STEPS"=some (some (.int 1 mqc)))
  {oqv:Tok} (e_ENDS:W.nsIn K mainGlobals "ENDS"=some (some (.int 2 oqv)))
  {bqt:Tok} (e_LONGEST_SCHEME:W.nsIn K mainGlobals "LONGEST_SCHEME"=some (some (.int 8 bqt)))
  {bqE:Tok} (e_LONGEST_HOUSE:W.nsIn K mainGlobals "LONGEST_HOUSE"=some (some (.int 60 bqE)))
  {eqh:Tok} (e_LAST_DOOR:W.nsIn K mainGlobals "LAST_DOOR"=some (some (.int 65535 eqh)))
  {oqu:Tok} (e_STAY:W.nsIn K mainGlobals "STAY"=some (some (.str (Str.ofString ".") oqu)))
  {t_UP:Tok} (e_UP:W.nsIn K mainGlobals "UP"=some (some (.str (Str.ofString "..") t_UP)))
  {iqN:Tok} (e_PIECES:W.nsIn K mainGlobals "PIECES"=some (some (.int 0 iqN)))
  {jqv:Tok} (e_CLOSES:W.nsIn K mainGlobals "CLOSES"=some (some (.int 1 jqv)))
  {bq0:Tok} (e_LONGEST_WORD:W.nsIn K mainGlobals "LONGEST_WORD"=some (some (.int 60 bq0)))
  {bqH:Tok} (e_FIRST_FIGURES:W.nsIn K mainGlobals "FIRST_FIGURES"=some (some (.str (Str.ofString "234567") bqH)))
  (z_all:W.nsIn K mainGlobals "all"=some none)
  (z_ord:W.nsIn K mainGlobals "ord"=some none)
  (z_isinstance:W.nsIn K mainGlobals "isinstance"=some none)
  (z_bool:W.nsIn K mainGlobals "bool"=some none)
  (z_int:W.nsIn K mainGlobals "int"=some none)
  (z_len:W.nsIn K mainGlobals "len"=some none)
  (z_range:W.nsIn K mainGlobals "range"=some none)
  (z_tuple:W.nsIn K mainGlobals "tuple"=some none)
  (z_str:W.nsIn K mainGlobals "str"=some none)
  (z_dict:W.nsIn K mainGlobals "dict"=some none)
  (z_list:W.nsIn K mainGlobals "list"=some none)
  (z_enumerate:W.nsIn K mainGlobals "enumerate"=some none)
  (ex_NoBase:excInJ K eC_NoBase vErr vNew none=true)
  (ex_NoName:excInJ K eC_NoName vErr vNew none=true)
  (ew1_NoBase:W.typeIn K (.ref eC_NoBase)=some (.type "type"))
  (ew2_NoBase:W.subIn K (.ref eC_NoBase) (.type "BaseException")=some true)
  (ew3_NoBase:(W.clsIn K eC_NoBase).isSome=true)
  (ew1_NoName:W.typeIn K (.ref eC_NoName)=some (.type "type"))
  (ew2_NoName:W.subIn K (.ref eC_NoName) (.type "BaseException")=some true)
  (ew3_NoName:(W.clsIn K eC_NoName).isSome=true)
  (ew1_NoValue:W.typeIn K (.ref eC_NoValue)=some (.type "type"))
  (ew2_NoValue:W.subIn K (.ref eC_NoValue) (.type "BaseException")=some true)
  (ew3_NoValue:(W.clsIn K eC_NoValue).isSome=true)
  (el0_NoBase:W.findIn K (.ref eC_NoBase) "__getattribute__"=some (some (.builtin "BaseException.__getattribute__")))
  (el1_NoBase:W.findIn K (.ref eC_NoBase) "__class__"=some (some (.builtin "object.__class__")))
  (el2_NoBase:W.findIn K (.ref eC_NoBase) "__getattr__"=some none)
  (el3_NoBase:W.mroIn K eC_NoBase (.type "object")=some true)
  (el4_NoBase:W.mroIn K eC_NoBase (.type "BaseException")=some true)
  (el5_NoBase:(W.clsIn K eC_NoBase).isSome=true)
  (el0_NoName:W.findIn K (.ref eC_NoName) "__getattribute__"=some (some (.builtin "BaseException.__getattribute__")))
  (el1_NoName:W.findIn K (.ref eC_NoName) "__class__"=some (some (.builtin "object.__class__")))
  (el2_NoName:W.findIn K (.ref eC_NoName) "__getattr__"=some none)
  (el3_NoName:W.mroIn K eC_NoName (.type "object")=some true)
  (el4_NoName:W.mroIn K eC_NoName (.type "BaseException")=some true)
  (el5_NoName:(W.clsIn K eC_NoName).isSome=true)
  (el0_NoValue:W.findIn K (.ref eC_NoValue) "__getattribute__"=some (some (.builtin "BaseException.__getattribute__")))
  (el1_NoValue:W.findIn K (.ref eC_NoValue) "__class__"=some (some (.builtin "object.__class__")))
  (el2_NoValue:W.findIn K (.ref eC_NoValue) "__getattr__"=some none)
  (el3_NoValue:W.mroIn K eC_NoValue (.type "object")=some true)
  (el4_NoValue:W.mroIn K eC_NoValue (.type "BaseException")=some true)
  (el5_NoValue:(W.clsIn K eC_NoValue).isSome=true)
  (ey_NoValue:excInJ K eC_NoValue vErr vNew (some (.ref f7))=true)
  (ek_NoValue:W.keepIn K (.ref eC_NoValue)=true)
  (es_NoValue:W.findIn K (.ref eC_NoValue) "__setattr__"=some (some (.builtin "object.__setattr__")))
  (eo_NoValue:overErr K eC_NoValue=true)
  (eh_NoValue:W.hasDictIn K eC_NoValue=true)
  (ef_NoValue_name:W.findIn K (.ref eC_NoValue) "name"=some none)
  (eu_NoBase_NoBase:W.subIn K (.ref eC_NoBase) (.ref eC_NoBase)=some true)
  (eu_NoName_NoName:W.subIn K (.ref eC_NoName) (.ref eC_NoName)=some true)
  (eu_NoValue_NoValue:W.subIn K (.ref eC_NoValue) (.ref eC_NoValue)=some true)
  (ev_NoBase_NoName:W.subIn K (.ref eC_NoBase) (.ref eC_NoName)=some false)
  (ev_NoName_NoBase:W.subIn K (.ref eC_NoName) (.ref eC_NoBase)=some false)
  (ev_NoValue_NoBase:W.subIn K (.ref eC_NoValue) (.ref eC_NoBase)=some false)
  (ev_NoValue_NoName:W.subIn K (.ref eC_NoValue) (.ref eC_NoName)=some false)
  (pg_Cursor:W.plainGet K kC_Cursor Str.empty=true)
  (hd_Cursor:W.hasDictIn K kC_Cursor=true)
  (po_Cursor:W.plainOver K kC_Cursor=true)
  (sa_Cursor:W.findIn K (.ref kC_Cursor) "__setattr__"=some (some (.builtin "object.__setattr__")))
  (mk_Cursor:W.makesIn K kC_Cursor=true)
  (kc_Cursor:W.keepIn K (.ref kC_Cursor)=true)
  (nf_Cursor_text:W.findIn K (.ref kC_Cursor) "text"=some none)
  (nf_Cursor_place:W.findIn K (.ref kC_Cursor) "place"=some none)
  (kk:(((((((W.keepIn K (.ref f1) && W.keepIn K (.ref f2)) && W.keepIn K (.ref f3)) && (W.keepIn K (.ref f4) && W.keepIn K (.ref f5))) && ((W.keepIn K (.ref f6) && W.keepIn K (.ref f7)) && (W.keepIn K (.ref f8) && W.keepIn K (.ref f9)))) && ((((W.keepIn K (.ref f10) && W.keepIn K (.ref f11)) && W.keepIn K (.ref f12)) && (W.keepIn K (.ref f13) && W.keepIn K (.ref f14))) && ((W.keepIn K (.ref f15) && W.keepIn K (.ref f16)) && (W.keepIn K (.ref f17) && W.keepIn K (.ref f18))))) && (((((W.keepIn K (.ref f19) && W.keepIn K (.ref f20)) && W.keepIn K (.ref f21)) && (W.keepIn K (.ref f22) && W.keepIn K (.ref f23))) && ((W.keepIn K (.ref f24) && W.keepIn K (.ref f25)) && (W.keepIn K (.ref f26) && W.keepIn K (.ref f27)))) && (((W.keepIn K (.ref f28) && W.keepIn K (.ref f29)) && (W.keepIn K (.ref f30) && W.keepIn K (.ref f31))) && ((W.keepIn K (.ref f32) && W.keepIn K (.ref f33)) && (W.keepIn K (.ref f34) && W.keepIn K (.ref f35)))))) && ((((((W.keepIn K (.ref f36) && W.keepIn K (.ref f37)) && W.keepIn K (.ref f38)) && (W.keepIn K (.ref f39) && W.keepIn K (.ref f40))) && ((W.keepIn K (.ref f41) && W.keepIn K (.ref f42)) && (W.keepIn K (.ref f43) && W.keepIn K (.ref f44)))) && ((((W.keepIn K (.ref f45) && W.keepIn K (.ref f46)) && W.keepIn K (.ref f47)) && (W.keepIn K (.ref f48) && W.keepIn K (.ref f49))) && ((W.keepIn K (.ref f50) && W.keepIn K (.ref f51)) && (W.keepIn K (.ref f52) && W.keepIn K (.ref f53))))) && (((((W.keepIn K (.ref f54) && W.keepIn K (.ref f55)) && W.keepIn K (.ref f56)) && (W.keepIn K (.ref f57) && W.keepIn K (.ref f58))) && ((W.keepIn K (.ref f59) && W.keepIn K (.ref f60)) && (W.keepIn K (.ref f61) && W.keepIn K (.ref f62)))) && (((W.keepIn K (.ref f63) && W.keepIn K (.ref f64)) && (W.keepIn K (.ref f65) && W.keepIn K (.ref f66))) && ((W.keepIn K (.ref f67) && W.keepIn K (.ref f68)) && (W.keepIn K (.ref f69) && W.keepIn K (.ref f70)))))))=true)
  (cc:(((((((W.codeIn K cd1 "made_of" && W.codeIn K cd2 "pair_of") && W.codeIn K cd3 "figure_number") && (W.codeIn K cd4 "sign_numbered" && W.codeIn K cd5 "is_whole")) && ((W.codeIn K cd6 "is_whole_number" && W.codeIn K cd7 "NoValue.__init__") && (W.codeIn K cd8 "slashed" && W.codeIn K cd9 "is_dot"))) && ((((W.codeIn K cd10 "is_gap" && W.codeIn K cd11 "name_of") && W.codeIn K cd12 "head_of") && (W.codeIn K cd13 "tail_of" && W.codeIn K cd14 "pattern_named")) && ((W.codeIn K cd15 "Cursor.__init__" && W.codeIn K cd16 "Cursor.at_end") && (W.codeIn K cd17 "Cursor.take" && W.codeIn K cd18 "Cursor.passes")))) && (((((W.codeIn K cd19 "door_with" && W.codeIn K cd20 "_law_cell_at") && W.codeIn K cd21 "_law_names") && (W.codeIn K cd22 "_law_signs" && W.codeIn K cd23 "_law_gaps")) && ((W.codeIn K cd24 "_law_name_of" && W.codeIn K cd25 "_law_filled") && (W.codeIn K cd26 "_law_base" && W.codeIn K cd27 "_law_more"))) && (((W.codeIn K cd28 "is_text" && W.codeIn K cd29 "sign_of") && (W.codeIn K cd30 "written" && W.codeIn K cd31 "names_of")) && ((W.codeIn K cd32 "is_word" && W.codeIn K cd33 "steps_of_value") && (W.codeIn K cd34 "Cursor.sees" && W.codeIn K cd35 "_law_text"))))) && ((((((W.codeIn K cd36 "is_scheme" && W.codeIn K cd37 "is_filled_text") && W.codeIn K cd38 "shown_house") && (W.codeIn K cd39 "shown_way" && W.codeIn K cd40 "shown_asked")) && ((W.codeIn K cd41 "shown_mark" && W.codeIn K cd42 "refuse_others") && (W.codeIn K cd43 "taken_door" && W.codeIn K cd44 "taken_pair"))) && ((((W.codeIn K cd45 "_law_step" && W.codeIn K cd46 "shown_question") && W.codeIn K cd47 "can_be_step") && (W.codeIn K cd48 "taken_scheme" && W.codeIn K cd49 "taken_text")) && ((W.codeIn K cd50 "_law_piece" && W.codeIn K cd51 "_law_value") && (W.codeIn K cd52 "show" && W.codeIn K cd53 "is_value")))) && (((((W.codeIn K cd54 "taken_way" && W.codeIn K cd55 "taken_value") && W.codeIn K cd56 "taken_mark") && (W.codeIn K cd57 "taken_filled_text" && W.codeIn K cd58 "_law_small")) && ((W.codeIn K cd59 "_law_values" && W.codeIn K cd60 "filled_steps") && (W.codeIn K cd61 "taken_house" && W.codeIn K cd62 "taken_question"))) && (((W.codeIn K cd63 "_law_table" && W.codeIn K cd64 "filled") && (W.codeIn K cd65 "read" && W.codeIn K cd66 "made")) && ((W.codeIn K cd67 "made_address" && W.codeIn K cd68 "_law_told") && (W.codeIn K cd69 "_law_asked" && W.codeIn K cd70 "law"))))))=true) :
  ∃fd:FuncData,(∀(s:Shared) (v:Value),BindsTo s fd ⟨[v],[]⟩ [("_law_script",v)])∧∀base:Heap,K.In base->base.Ns mainGlobals mg->FnOk l.prog w K mg base CX0 12 fa fd ["_law_script"] (rqc K):=by
 have e:=hfa.symm.trans (W.mg_of X Gl a70)
 have e2:f70=fa:=by cases e;rfl
 subst e2
 have M:∀{x:Str}{v:Value},W.nsIn K mainGlobals x=some (some v)->mg x=some v:=fun a=>W.mg_of X Gl a
 simp only[Bool.and_eq_true] at kk cc
 obtain⟨⟨⟨⟨⟨⟨⟨i6,iz⟩,iy⟩,⟨ix,iw⟩⟩,⟨⟨iu,ir⟩,⟨iq,ip⟩⟩⟩,⟨⟨⟨⟨db,da⟩,c9⟩,⟨cz,cy⟩⟩,⟨⟨cx,cv⟩,⟨cu,cr⟩⟩⟩⟩,⟨⟨⟨⟨⟨cq,cn⟩,cm⟩,⟨ck,cj⟩⟩,⟨⟨ci,cg⟩,⟨cf,cb⟩⟩⟩,⟨⟨⟨ca,b9⟩,⟨b8,b7⟩⟩,⟨⟨bz,bx⟩,⟨bw,bv⟩⟩⟩⟩⟩,⟨⟨⟨⟨⟨⟨bu,bt⟩,br⟩,⟨bq,bp⟩⟩,⟨⟨bo,bn⟩,⟨bj,bi⟩⟩⟩,⟨⟨⟨⟨bh,bg⟩,bf⟩,⟨be,bd⟩⟩,⟨⟨bc,az⟩,⟨ay,ax⟩⟩⟩⟩,⟨⟨⟨⟨⟨aw,av⟩,au⟩,⟨ar,aq⟩⟩,⟨⟨ap,ao⟩,⟨am,al⟩⟩⟩,⟨⟨⟨aj,ai⟩,⟨ah,ag⟩⟩,⟨⟨af,ae⟩,⟨ad,ac⟩⟩⟩⟩⟩⟩:=kk
 obtain⟨⟨⟨⟨⟨⟨⟨jg,jf⟩,je⟩,⟨jd,jc⟩⟩,⟨⟨jb,ja⟩,⟨i9,i8⟩⟩⟩,⟨⟨⟨⟨ia,gz⟩,gy⟩,⟨gw,gv⟩⟩,⟨⟨gu,gt⟩,⟨gr,gq⟩⟩⟩⟩,⟨⟨⟨⟨⟨gp,gn⟩,gm⟩,⟨gl,gk⟩⟩,⟨⟨gj,gi⟩,⟨gh,gf⟩⟩⟩,⟨⟨⟨ge,gd⟩,⟨gc,fz⟩⟩,⟨⟨fw,fu⟩,⟨ft,fm⟩⟩⟩⟩⟩,⟨⟨⟨⟨⟨⟨fk,fj⟩,fi⟩,⟨fh,fg⟩⟩,⟨⟨ff,fe⟩,⟨fc,fb⟩⟩⟩,⟨⟨⟨⟨ez,eu⟩,er⟩,⟨eo,el⟩⟩,⟨⟨ek,eh⟩,⟨eg,ee⟩⟩⟩⟩,⟨⟨⟨⟨⟨ec,d9⟩,d8⟩,⟨d7,dz⟩⟩,⟨⟨dy,dv⟩,⟨du,dq⟩⟩⟩,⟨⟨⟨dm,dl⟩,⟨dk,dj⟩⟩,⟨⟨di,dh⟩,⟨df,de⟩⟩⟩⟩⟩⟩:=cc
 have F1:=aqv (st:=iqQ) l1 jg i6
 have F2:=aqv (st:=jqd) l2 jf iz
 have F3:=aqv (st:=cqE) l3 je iy
 have F4:=aqv (st:=cqD) l4 jd ix
 have F5:=aqv (st:=hqM) l5 jc iw
 have F6:=aqv (st:=bqP) l6 jb iu
 have F7:=aqv (st:=aqS) l7 ja ir
 have F8:=aqv (st:=iqC) l8 i9 iq
 have F9:=aqv (st:=kq5) l9 i8 ip
 have lj:=aqv (st:=kq7) l10 ia db
 have li:=aqv (st:=jqr) l11 gz da
 have lh:=aqv (st:=jqk) l12 gy c9
 have lf:=aqv (st:=jqb) l13 gw cz
 have lc:=aqv (st:=cqJ) l14 gv cy
 have la:=aqv (st:=aqZ) l15 gu cx
 have io:=aqv (st:=bqf) l16 gt cv
 have ik:=aqv (st:=bqV) l17 gr cu
 have ij:=aqv (st:=bqh) l18 gq cr
 have k9:=aqv (st:=fq9) l19 gp cq
 have k8:=aqv (st:=cq3) l20 gn cn
 have k7:=aqv (st:=eqC) l21 gm cm
 have k6:=aqv (st:=eqN) l22 gl ck
 have kz:=aqv (st:=fqz) l23 gk cj
 have ky:=aqv (st:=cq8) l24 gj ci
 have ku:=aqv (st:=dq7) l25 gi cg
 have kt:=aqv (st:=fqE) l26 gh cf
 have kr:=aqv (st:=fq0) l27 gf cb
 have kq:=aqv (st:=jqD) l28 ge ca
 have ko:=aqv (st:=iqB) l29 gd b9
 have kn:=aqv (st:=iqU) l30 gc b8
 have km:=aqv (st:=hqK) l31 fz b7
 have kj:=aqv (st:=jqj) l32 fw bz
 have ki:=aqv (st:=bq5) l33 fu bx
 have ii:=aqv (st:=bqU) l34 ft bw
 have kh:=aqv (st:=gqf) l35 fm bv
 have kg:=aqv (st:=fqX) l36 fk bu
 have kf:=aqv (st:=cqa) l37 fj bt
 have ke:=aqv (st:=dqH) l38 fi br
 have kc:=aqv (st:=fqU) l39 fh bq
 have ka:=aqv (st:=dqP) l40 fg bp
 have j9:=aqv (st:=eqK) l41 ff bo
 have j8:=aqv (st:=cqH) l42 fe bn
 have j7:=aqv (st:=fqa) l43 fc bj
 have j6:=aqv (st:=eqP) l44 fb bi
 have j5:=aqv (st:=gqd) l45 ez bh
 have j4:=aqv (st:=cqf) l46 eu bg
 have j3:=aqv (st:=dqZ) l47 er bf
 have j0:=aqv (st:=cq2) l48 eo be
 have ig:=qqc (st:=eqF) l49 el bd
 have jz:=aqv (st:=eq5) l50 ek bc
 have jy:=aqv (st:=eqT) l51 eh az
 have jx:=aqv (st:=qqD) l52 eg ay
 have jw:=aqv (st:=hqL) l53 ee ax
 have jv:=aqv (st:=fqJ) l54 ec aw
 have ju:=aqv (st:=dqO) l55 d9 av
 have jt:=aqv (st:=eq9) l56 d8 au
 have ie:=qqc (st:=bqr) l57 d7 ar
 have js:=aqv (st:=eq1) l58 dz aq
 have jr:=aqv (st:=dqS) l59 dy ap
 have jq:=aqv (st:=dqe) l60 dv ao
 have jp:=aqv (st:=dqN) l61 du am
 have jo:=aqv (st:=bq4) l62 dq al
 have jn:=aqv (st:=eqJ) l63 dm aj
 have jm:=aqv (st:=kqY) l64 dl ai
 have jl:=aqv (st:=rqr) l65 dk ah
 have jk:=aqv (st:=qqI) l66 dj ag
 have ic:=qqc (st:=cq7) l67 di af
 have jj:=aqv (st:=fqN) l68 dh ae
 have ji:=aqv (st:=eqD) l69 df ad
 have jh:=aqv (st:=uqH) l70 de ac
 let g:G K mg:={
  iq7:=f1,hqO:=_,fqo:=F1,gq0:=M a1,
  hqj:=F1.binds (by walk_at "b2"),
  jqo:=f2,hqE:=_,lqg:=F2,oqX:=M a2,
  pqe:=F2.binds (by walk_at "b1"),
  cqI:=f3,cqc:=_,cqP:=F3,eql:=M a3,
  eqq:=F3.binds (by walk_at "b1"),
  cqN:=f4,cqe:=_,eqs:=F4,gqB:=M a4,
  gqF:=F4.binds (by walk_at "b1"),
  hqC:=f5,gqj:=_,hqB:=F5,jqM:=M a5,
  jqI:=F5.binds (by walk_at "b1"),
  bqX:=f6,bqy:=_,cqW:=F6,fqw:=M a6,
  fqj:=F6.binds (by walk_at "b1"),
  bqx:=f7,bqo:=_,eqM:=F7,
  cqB:=F7.binds (by walk_at "b2"),
  iqT:=f8,hqx:=_,lqf:=F8,oqN:=M a8,
  pqi:=F8.binds (by walk_at "b3"),
  kq1:=f9,iqG:=_,kq2:=F9,nqX:=M a9,
  nqI:=F9.binds (by walk_at "b1"),
  kq6:=f10,jqi:=_,kq3:=lj,nq1:=M a10,
  nqo:=lj.binds (by walk_at "b1"),
  iqY:=f11,hqN:=_,gq7:=li,iqS:=M a11,
  jqu:=li.binds (by walk_at "b1"),
  jqC:=f12,hqz:=_,jqp:=lh,lq5:=M a12,
  lqB:=lh.binds (by walk_at "b1"),
  iqH:=f13,hqJ:=_,iq2:=lf,lqF:=M a13,
  lq0:=lf.binds (by walk_at "b1"),
  cqL:=f14,cqb:=_,eqk:=lc,gqS:=M a14,
  gq2:=lc.binds (by walk_at "b2"),
  bqT:=f15,bqw:=_,fqr:=la,
  fqq:=la.binds (by walk_at "b2"),
  cqy:=f16,cqd:=_,hql:=io,dqt:=⟨a16,i16,io.kp⟩,
  eqr:=io.binds (by walk_at "b1"),
  dq8:=f17,dqd:=_,jqc:=ik,bqv:=⟨a17,i17,ik.kp⟩,
  bqN:=ik.binds (by walk_at "b1"),
  cqx:=f18,cqj:=_,gqG:=ij,aqC:=⟨a18,i18,ij.kp⟩,
  aqH:=ij.binds (by walk_at "b2"),
  fq8:=f19,eqQ:=_,fqL:=k9,iqw:=M a19,
  iqp:=k9.binds (by walk_at "b2"),
  dqg:=f20,cqq:=_,aqY:=k8,bqa:=M a20,
  aq9:=k8.binds (by walk_at "b2"),
  fqc:=f21,dq3:=_,eqW:=k7,gq6:=M a21,
  hqg:=k7.binds (by walk_at "b2"),
  eqI:=f22,eqa:=_,hqe:=k6,kqc:=M a22,
  kqq:=k6.binds (by walk_at "b0"),
  fqS:=f23,eq0:=_,iqx:=kz,lqO:=M a23,
  lq9:=kz.binds (by walk_at "b1"),
  dqf:=f24,cqC:=_,fqh:=ky,iqb:=M a24,
  hqV:=ky.binds (by walk_at "b1"),
  dqX:=f25,cq6:=_,fqG:=ku,jqf:=M a25,
  iq3:=ku.binds (by walk_at "b2"),
  fqI:=f26,eqE:=_,gqh:=kt,iqy:=M a26,
  iqe:=kt.binds (by walk_at "b2"),
  gqc:=f27,eq8:=_,iqm:=kr,lqJ:=M a27,
  lqr:=kr.binds (by walk_at "b2"),
  jqs:=f28,hqI:=_,iqJ:=kq,lqI:=M a28,
  lqv:=kq.binds (by walk_at "b1"),
  jqh:=f29,hqG:=_,lqk:=ko,oq8:=M a29,
  pqn:=ko.binds (by walk_at "b1"),
  iq8:=f30,hqP:=_,dql:=kn,eqm:=M a30,
  eqx:=kn.binds (by walk_at "b1"),
  hqA:=f31,fqP:=_,jq3:=km,mqQ:=M a31,
  mqI:=km.binds (by walk_at "b1"),
  iq1:=f32,hqF:=_,lqA:=kj,oqU:=M a32,
  oqV:=kj.binds (by walk_at "b1"),
  bq6:=f33,bqR:=_,dqw:=ki,gqt:=M a33,
  gqm:=ki.binds (by walk_at "b2"),
  dqM:=f34,cq1:=_,iq9:=ii,bq2:=⟨a34,i34,ii.kp⟩,
  cqK:=ii.binds (by walk_at "b2"),
  fq2:=f35,fqb:=_,cql:=kh,cqU:=M a35,
  cqV:=kh.binds (by walk_at "b1"),
  fqC:=f36,eqZ:=_,iqo:=kg,lqo:=M a36,
  lqq:=kg.binds (by walk_at "b1"),
  cqg:=f37,bqL:=_,cqi:=kf,dqz:=M a37,
  dqx:=kf.binds (by walk_at "b1"),
  dqT:=f38,dqk:=_,fqY:=ke,iqL:=M a38,
  iq0:=ke.binds (by walk_at "b2"),
  fqD:=f39,eq7:=_,iqn:=kc,lq7:=M a39,
  lql:=kc.binds (by walk_at "b1"),
  dq4:=f40,cq0:=_,fqH:=ka,iqK:=M a40,
  iqM:=ka.binds (by walk_at "b2"),
  eqH:=f41,dq2:=_,hqf:=j9,kqe:=M a41,
  kql:=j9.binds (by walk_at "b1"),
  cqt:=f42,bq7:=_,eqi:=j8,gq5:=M a42,
  hqn:=j8.binds (by walk_at "b2"),
  eqY:=f43,dqQ:=_,hqk:=j7,kqy:=M a43,
  kqD:=j7.binds (by walk_at "b1"),
  fqd:=f44,dq1:=_,gqD:=j6,kqt:=M a44,
  kqx:=j6.binds (by walk_at "b1"),
  fqT:=f45,eqB:=_,eqe:=j5,fq7:=M a45,
  fqR:=j5.binds (by walk_at "b1"),
  cqh:=f46,bqK:=_,dqB:=j4,gqn:=M a46,
  gqr:=j4.binds (by walk_at "b1"),
  dqK:=f47,cqY:=_,fqB:=j3,iqE:=M a47,
  jqe:=j3.binds (by walk_at "b1"),
  dqj:=f48,cqv:=_,fqf:=j0,hqZ:=M a48,
  hq8:=j0.binds (by walk_at "b1"),
  eq2:=f49,cqQ:=_,kqo:=T49,mqC:=dt49_0,bql:=ig,bqA:=M a49,
  kqw:=ig.binds (ps:=["cursor","free","most"]) (ds:=[]) d49 fun _ _ _ _ _ _ us hl=>by rw[append_nil] at hl;obtain⟨x0,x1,x2,e⟩:=usl3 hl;subst e;exact⟨_,rfl,rfl⟩,
  bqO:=ig.binds (ps:=["cursor","free","most"]) (ds:=[.none]) d49 fun _ _ _ _ _ _ us hl=>by obtain⟨x,y,rfl⟩:=tqU hl;exact⟨_,rfl,rfl⟩,
  eqS:=f50,dq6:=_,gqW:=jz,kqE:=M a50,
  kqg:=jz.binds (by walk_at "b2"),
  eq6:=f51,dqJ:=_,gq4:=jy,kqB:=M a51,
  kqh:=jy.binds (by walk_at "b2"),
  qqn:=f52,nqt:=_,tqH:=jx,wqF:=M a52,
  wqI:=jx.binds (by walk_at "b1"),
  hqQ:=f53,gqb:=_,jq5:=jw,mq0:=M a53,
  mqR:=jw.binds (by walk_at "b2"),
  fqM:=f54,eqG:=_,iqv:=jv,mqa:=M a54,
  lqW:=jv.binds (by walk_at "b2"),
  dqV:=f55,dqc:=_,dqR:=ju,fqA:=M a55,
  fq3:=ju.binds (by walk_at "b1"),
  eqL:=f56,dq5:=_,hqu:=jt,kqv:=M a56,
  kqz:=jt.binds (by walk_at "b1"),
  bqp:=f57,aqU:=_,eqd:=T57,hqr:=dt57_0,bqn:=ie,cqn:=M a57,
  eqn:=ie.binds (ps:=["cursor","free","most"]) (ds:=[]) d57 fun _ _ _ _ _ _ us hl=>by rw[append_nil] at hl;obtain⟨x0,x1,x2,e⟩:=usl3 hl;subst e;exact⟨_,rfl,rfl⟩,
  dqF:=ie.binds (ps:=["cursor","free","most"]) (ds:=[.none]) d57 fun _ _ _ _ _ _ us hl=>by obtain⟨x,y,rfl⟩:=tqU hl;exact⟨_,rfl,rfl⟩,
  eqX:=f58,dq0:=_,hqo:=js,jq9:=M a58,
  kqf:=js.binds (by walk_at "b2"),
  dqU:=f59,dqa:=_,fqW:=jr,iqZ:=M a59,
  iqA:=jr.binds (by walk_at "b2"),
  dqi:=f60,cqM:=_,fqi:=jq,hq9:=M a60,
  hqT:=jq.binds (by walk_at "b2"),
  dqI:=f61,cq5:=_,fqF:=jp,iqP:=M a61,
  iqF:=jp.binds (by walk_at "b1"),
  bq9:=f62,bqM:=_,dqu:=jo,gqv:=M a62,
  gqq:=jo.binds (by walk_at "b1"),
  eqR:=f63,dqW:=_,hqi:=jn,kqd:=M a63,
  kqj:=jn.binds (by walk_at "b5"),
  kqZ:=f64,jql:=_,nqU:=jm,qqU:=M a64,
  qqO:=jm.binds (by walk_at "b2"),
  rqa:=f65,nqQ:=_,tqP:=jl,wqr:=M a65,
  wqq:=jl.binds (by walk_at "b1"),
  qq8:=f66,nqG:=_,tqi:=jk,wqo:=M a66,
  wqh:=jk.binds (by walk_at "b3"),
  dqb:=f67,bqG:=_,iqa:=T67,kqU:=dt67_0,kqH:=dt67_1,cq9:=ic,fqe:=M a67,
  hq7:=ic.binds (ps:=["table","base","name","values","question","mark"]) (ds:=[]) d67 fun _ _ _ _ _ _ us hl=>by rw[append_nil] at hl;obtain⟨x0,x1,x2,x3,x4,x5,e⟩:=usl6 hl;subst e;exact⟨_,rfl,rfl⟩,
  gqV:=ic.binds (ps:=["table","base","name","values","question","mark"]) (ds:=[.none,.none]) d67 fun _ _ _ _ _ _ us hl=>by obtain⟨x0,x1,x2,x3,rfl⟩:=usl4 (show us.length=4 by rw[length_append] at hl;exact Nat.add_right_cancel (m:=2) hl);exact⟨_,rfl,rfl⟩,
  fq4:=f68,eqO:=_,gqe:=jj,iqu:=M a68,
  iqg:=jj.binds (by walk_at "b5"),
  eq4:=f69,dqL:=_,gq9:=ji,kqs:=M a69,
  kqm:=ji.binds (by walk_at "b4"),
  vqC:=f70,oq5:=_,AqF:=jh,AqO:=M a70,
  AqQ:=jh.binds (by walk_at "b1"),
  lqd:=lqd,pqV:=W.mg_of X Gl e_SIGNS,
  bqz:=bqz,gqJ:=W.mg_of X Gl e_SMALL_LETTERS,
  gqQ:=gqQ,oqG:=W.mg_of X Gl e_LETTERS,
  aqQ:=aqQ,dqs:=W.mg_of X Gl e_LETTERS_AND_FIGURES,
  gqL:=gqL,lqY:=W.mg_of X Gl e_FIGURES,
  lqp:=lqp,pqY:=W.mg_of X Gl e_PLAIN,
  bqI:=bqI,eqz:=W.mg_of X Gl e_FREE_IN_STEPS,
  aq1:=aq1,bqq:=W.mg_of X Gl e_FREE_IN_QUESTIONS,
  bqD:=bqD,gq3:=W.mg_of X Gl e_FREE_IN_MARKS,
  bq1:=bq1,fqg:=W.mg_of X Gl e_FIRST_NUMBER,
  cqG:=cqG,iq4:=W.mg_of X Gl e_LAST_NUMBER,
  bqj:=bqj,cqT:=W.mg_of X Gl e_NUMBER_LEFT_OUT,
  bqB:=bqB,bqC:=W.mg_of X Gl e_SMALL_FIGURES,
  bqF:=bqF,eqt:=W.mg_of X Gl e_GREAT_FIGURES,
  jqg:=jqg,nqN:=W.mg_of X Gl e_SCHEME,
  lqX:=lqX,uqd:=W.mg_of X Gl e_HOUSE,
  oq6:=oq6,wqD:=W.mg_of X Gl e_DOOR,
  tqd:=tqd,yqx:=W.mg_of X Gl e_WAY,
  fqv:=fqv,mqZ:=W.mg_of X Gl e_QUESTION,
  pqd:=pqd,wqC:=W.mg_of X Gl e_MARK,
  iq5:=iq5,rqn:=W.mg_of X Gl e_ROOTED,
  mqc:=mqc,tql:=W.mg_of X Gl e_STEPS,
  oqv:=oqv,wqm:=W.mg_of X Gl e_ENDS,
  bqt:=bqt,gqy:=W.mg_of X Gl e_LONGEST_SCHEME,
  bqE:=bqE,gqN:=W.mg_of X Gl e_LONGEST_HOUSE,
  eqh:=eqh,lqR:=W.mg_of X Gl e_LAST_DOOR,
  oqu:=oqu,wqf:=W.mg_of X Gl e_STAY,
  t_UP:=t_UP,c_UP:=W.mg_of X Gl e_UP,
  iqN:=iqN,nqL:=W.mg_of X Gl e_PIECES,
  jqv:=jqv,qqW:=W.mg_of X Gl e_CLOSES,
  bq0:=bq0,hqW:=W.mg_of X Gl e_LONGEST_WORD,
  bqH:=bqH,gqA:=W.mg_of X Gl e_FIRST_FIGURES,
  wq9:=W.mg_none_of X Gl z_all,
  zqq:=W.mg_none_of X Gl z_ord,
  bqm:=W.mg_none_of X Gl z_isinstance,
  wqd:=W.mg_none_of X Gl z_bool,
  vqV:=W.mg_none_of X Gl z_int,
  fqn:=W.mg_none_of X Gl z_len,
  iqr:=W.mg_none_of X Gl z_range,
  gqM:=W.mg_none_of X Gl z_tuple,
  pq0:=W.mg_none_of X Gl z_str,
  wqc:=W.mg_none_of X Gl z_dict,
  qqQ:=W.mg_none_of X Gl z_list,
  iqf:=W.mg_none_of X Gl z_enumerate,
  cqw:=eC_NoBase,nqA:=W.mg_of X Gl en_NoBase,
  bqW:=eC_NoName,nqg:=W.mg_of X Gl en_NoName,
  aqK:=eC_NoValue,jqq:=W.mg_of X Gl en_NoValue,
  qqm:=ex_NoBase,
  qq4:=ex_NoName,
  qqZ:=⟨ew1_NoBase,ew2_NoBase,ew3_NoBase⟩,
  rqs:=⟨ew1_NoName,ew2_NoName,ew3_NoName⟩,
  pqx:=⟨ew1_NoValue,ew2_NoValue,ew3_NoValue⟩,
  vqH:=⟨el0_NoBase,el1_NoBase,el2_NoBase,el3_NoBase,el4_NoBase,el5_NoBase⟩,
  vqv:=⟨el0_NoName,el1_NoName,el2_NoName,el3_NoName,el4_NoName,el5_NoName⟩,
  tqm:=⟨el0_NoValue,el1_NoValue,el2_NoValue,el3_NoValue,el4_NoValue,el5_NoValue⟩,
  lqC:=⟨ey_NoValue,i7,ek_NoValue⟩,
  gqZ:=⟨es_NoValue,eo_NoValue,ef_NoValue_name,eh_NoValue⟩,
  hqt:=⟨⟨el0_NoValue,el1_NoValue,el2_NoValue,el3_NoValue,el4_NoValue,el5_NoValue⟩,ef_NoValue_name,eh_NoValue⟩,
  gqT:=eu_NoBase_NoBase,
  gqY:=eu_NoName_NoName,
  fqy:=eu_NoValue_NoValue,
  lqU:=ev_NoBase_NoName,
  gqH:=ev_NoName_NoBase,
  gqx:=ev_NoValue_NoBase,
  gql:=ev_NoValue_NoName,
  aqt:=kC_Cursor,aqo:=⟨pg_Cursor,hd_Cursor,po_Cursor,sa_Cursor⟩,qqv:=W.mg_of X Gl aC_Cursor,
  aqW:=nf_Cursor_text,
  aqD:=nf_Cursor_place,
  qqs:=⟨mk_Cursor,a15,i15,kc_Cursor⟩}
 exact⟨g.oq5,fun s v=>.of_eq rfl,fun base _ _=>yq0 g⟩
theorem walk {l:PySem.W.OpenLaw}{q:Program}{loose:List Str}{XP:(Str->Option Value)->Heap->Prop}{YP:World->Heap->Prop}{d:DefRec}{K:Params->W.Frag}(hn:l.most=some 63)(hdf:d.params.defaults=[])
  (hY:∀(w:World) (h:Heap),YP w h->(K w.params).In h)
  (F:∀(w:World) (mg:Str->Option Value) (fa:Addr) (h:Heap),(K w.params).In h->h.Ns mainGlobals mg->mg d.name=some (.ref fa) ->
   ∃fd:FuncData,(∀(s:Shared) (u:Value),BindsTo s fd ⟨[u],[]⟩ [("_law_script",u)])∧∀base:Heap,(K w.params).In base->base.Ns mainGlobals mg->FnOk l.prog w (K w.params) mg base CX0 12 fa fd ["_law_script"] (rqc (K w.params))) :
  PySem.W.WalkO q loose XP YP l.row.toRowW d [] (fun f vs=>PySem.call f vs):=
 L2.yqD (n:=63) (k:=12) (x := "_law_script") (CX:=fun _=>CX0) (sp:=fun w=>rqc (K w.params)) hn (by decide) hdf ⟨rfl,by decide,by decide⟩ hY F (fun _ _ a ns hl _ hS=>⟨a,ns,rfl,hS,hl,fun _=>rfl⟩) fun _ _ _ _ _ z=>z
end Wm
structure PySem.W.Fast:Prop where(tw16137517285016627070 tw13193927448071427955 tw17354983209204745397 tw6364586094668068853 tw4087473646565180114 tw7129423387469781728 tw4387936957293316019 tw16061439725480139813 tw4367464504323174734 tw16695166538043777305 tw17975462731128605911 tw6221761710890234804 tw5846154960885043902 tw3603820447225542085 tw12879147554134886857 tw13096115254907719429 tw1820758801428527808 tw1327668245204543231 tw5073918933293882984 tw7573361518069310158 tw2389546802229565729 tw13120661526306313713 tw14406490851024747849 tw3299382082209670979 tw15301557628658338371 tw9033955818259544003 tw2105251683390110890 tw2491932125753037691 tw4979284684752187763 tw5480404007668958019 tw15973630597851265880 tw13152756467522839835 tw14478624602359163983 tw11083138228321314189 tw7693358547651049169 tw8421499290106616502 tw11273671434547981334 tw17091236340673811784 tw15643683697965467953 tw8805573178655027375 tw5287813284124415573 tw1218833608692083640 tw6952666177563617943 tw6519781416936815091 tw6678447741512981926 tw10511507714819189867 tw2771816329335409894 tw1631918049482773611 tw14519039965688676820 tw12339712109992217728 tw11595106587591160240 tw16850662766121792109 tw7795051400059771484 tw12517717311608027291 tw3186902684667401445 tw3399849686831918250 tw6449898707775825233 tw11231604189145078626 tw5001856977323779159 tw8455006185753362987 tw2288415485442925131 tw14347530357072183821 tw5371491187714725149 tw7133359477574429721 tw10813617094385955023 tw3049714735326745182 tw6914533038789283565 tw9768868801230109408 tw9375170515048868573 tw17921301879689358002 tw5106864841852923124 tw6385293728750760476 tw14147339548609963584 tw5180158154609704579 tw5921954218248540437 tw12918333786287910818 tw12058111628523915092 tw8204452467654355066 tw584605250835703787 tw6380072132496641300 tw2342064260707178833 tw10876708933926055947 tw11208854570765726265 tw13017193668811449752 tw13055610936946176352 tw117970552636660167 tw12542813329203169241 tw815937694088515423 tw7230417327519764593 tw7271509638724399157 tw22912087517942517 tw9414712624370973312 tw8191271499246360428 tw16804353072030613722 tw1192414905693894015 tw7459049661263766456 tw566503861990116086 tw6451742289295542863 tw516062166361001684 tw16836786606257836273 tw7075309805923437298 tw1785969187916920794 tw6901764377908078003 tw10295473494221456082 tw16938594210106599180 tw15649088771617170046 tw11291487261097884979 tw9783155202985900164 tw906646906625291125 tw2249127909601898939 tw15865924112781432829 tw11358310154988406701 tw1141389336238488721 tw10073099054691865940 tw663341921547166957 tw15316227263964417242 tw8268400667605083657 tw15518019038815017534 tw310126991489052707 tw10233666519578931024 tw13946691053363779621 tw8680296438102330967 tw16487868878929981373 tw13531415933034963193 tw16914715042203264292 tw10350912373177256603 tw14154820849883905123 tw2840010047941589232 tw4095297828841669856 tw9499327080519765325 tw14906346293107874302 tw3384981046351241996 tw3843181565839661705 tw9691251378538774488 tw6334610493677275532 tw2887816683763788244 tw8789976185165577051 tw1250643761025780525 tw7048950521479070062 tw8144008341052720052 tw18149885848683700155 tw16522995117858622468 tw13555401155620519026 tw11566216677621618749 tw9806853576855411392 tw12521784194644664069 tw440040047218166084 tw17455471976117365154 tw6741363897040504685 tw14422330476867434183 tw1918948778171555376 tw3926807375625242090 tw6202154979744454532 tw5309557898924121110 tw874170833837548132 tw9982844184392141953 tw7708732289570384607 tw1278664582716636886:True)
open PySem PySem.W PyProof.Rows
set_option maxRecDepth 100000 in
set_option maxHeartbeats 0 in
theorem PySem.Challenge.cw_waymark_k64_addresses_made_holds : PySem.Challenge.rw_waymark_k64_addresses_made.Holds := by
 w_on; o_law; k_head; (case hw => w_witness2)
 k_fill
 refine Wm.walk (l := PySem.Challenge.rw_waymark_k64_addresses_made) rfl rfl (fun w h Y => PySem.W.kIn_of Y) ?F
 case F =>
  intro w mg fa h KX G hmg
  refine' Wm.zqF (dt49_0 := 0) (dt57_0 := 0) (dt67_0 := 0) (dt67_1 := 0) KX G hmg ?aC_Cursor ?en_NoBase ?en_NoName ?en_NoValue ?a1 ?l1 ?a2 ?l2 ?a3 ?l3 ?a4 ?l4 ?a5 ?l5 ?a6 ?l6 ?a7 ?i7 ?l7 ?a8 ?l8 ?a9 ?l9 ?a10 ?l10 ?a11 ?l11 ?a12 ?l12 ?a13 ?l13 ?a14 ?l14 ?a15 ?i15 ?l15 ?a16 ?i16 ?l16 ?a17 ?i17 ?l17 ?a18 ?i18 ?l18 ?a19 ?l19 ?a20 ?l20 ?a21 ?l21 ?a22 ?l22 ?a23 ?l23 ?a24 ?l24 ?a25 ?l25 ?a26 ?l26 ?a27 ?l27 ?a28 ?l28 ?a29 ?l29 ?a30 ?l30 ?a31 ?l31 ?a32 ?l32 ?a33 ?l33 ?a34 ?i34 ?l34 ?a35 ?l35 ?a36 ?l36 ?a37 ?l37 ?a38 ?l38 ?a39 ?l39 ?a40 ?l40 ?a41 ?l41 ?a42 ?l42 ?a43 ?l43 ?a44 ?l44 ?a45 ?l45 ?a46 ?l46 ?a47 ?l47 ?a48 ?l48 ?a49 ?l49 ?d49 ?a50 ?l50 ?a51 ?l51 ?a52 ?l52 ?a53 ?l53 ?a54 ?l54 ?a55 ?l55 ?a56 ?l56 ?a57 ?l57 ?d57 ?a58 ?l58 ?a59 ?l59 ?a60 ?l60 ?a61 ?l61 ?a62 ?l62 ?a63 ?l63 ?a64 ?l64 ?a65 ?l65 ?a66 ?l66 ?a67 ?l67 ?d67 ?a68 ?l68 ?a69 ?l69 ?a70 ?l70 ?e_SIGNS ?e_SMALL_LETTERS ?e_LETTERS ?e_LETTERS_AND_FIGURES ?e_FIGURES ?e_PLAIN ?e_FREE_IN_STEPS ?e_FREE_IN_QUESTIONS ?e_FREE_IN_MARKS ?e_FIRST_NUMBER ?e_LAST_NUMBER ?e_NUMBER_LEFT_OUT ?e_SMALL_FIGURES ?e_GREAT_FIGURES ?e_SCHEME ?e_HOUSE ?e_DOOR ?e_WAY ?e_QUESTION ?e_MARK ?e_ROOTED ?e_STEPS ?e_ENDS ?e_LONGEST_SCHEME ?e_LONGEST_HOUSE ?e_LAST_DOOR ?e_STAY ?e_UP ?e_PIECES ?e_CLOSES ?e_LONGEST_WORD ?e_FIRST_FIGURES ?z_all ?z_ord ?z_isinstance ?z_bool ?z_int ?z_len ?z_range ?z_tuple ?z_str ?z_dict ?z_list ?z_enumerate ?ex_NoBase ?ex_NoName ?ew1_NoBase ?ew2_NoBase ?ew3_NoBase ?ew1_NoName ?ew2_NoName ?ew3_NoName ?ew1_NoValue ?ew2_NoValue ?ew3_NoValue ?el0_NoBase ?el1_NoBase ?el2_NoBase ?el3_NoBase ?el4_NoBase ?el5_NoBase ?el0_NoName ?el1_NoName ?el2_NoName ?el3_NoName ?el4_NoName ?el5_NoName ?el0_NoValue ?el1_NoValue ?el2_NoValue ?el3_NoValue ?el4_NoValue ?el5_NoValue ?ey_NoValue ?ek_NoValue ?es_NoValue ?eo_NoValue ?eh_NoValue ?ef_NoValue_name ?eu_NoBase_NoBase ?eu_NoName_NoName ?eu_NoValue_NoValue ?ev_NoBase_NoName ?ev_NoName_NoBase ?ev_NoValue_NoBase ?ev_NoValue_NoName ?pg_Cursor ?hd_Cursor ?po_Cursor ?sa_Cursor ?mk_Cursor ?kc_Cursor ?nf_Cursor_text ?nf_Cursor_place ?kk ?cc
  (case aC_Cursor => k_is)
  (case en_NoBase | en_NoName | en_NoValue => first | k_is | kit_is | with_unfolding_all kernel_rfl | with_unfolding_all rfl)
  (case a1 | l1 | a2 | l2 | a3 | l3 | a4 | l4 | a5 | l5 | a6 | l6 | a7 | i7 | l7 | a8 | l8 | a9 | l9 | a10 | l10 | a11 | l11 | a12 | l12 | a13 | l13 | a14 | l14 | a15 | i15 | l15 | a16 | i16 | l16 | a17 | i17 | l17 | a18 | i18 | l18 | a19 | l19 | a20 | l20 | a21 | l21 | a22 | l22 | a23 | l23 | a24 | l24 | a25 | l25 | a26 | l26 | a27 | l27 | a28 | l28 | a29 | l29 | a30 | l30 | a31 | l31 | a32 | l32 | a33 | l33 | a34 | i34 | l34 | a35 | l35 | a36 | l36 | a37 | l37 | a38 | l38 | a39 | l39 | a40 | l40 | a41 | l41 | a42 | l42 | a43 | l43 | a44 | l44 | a45 | l45 | a46 | l46 | a47 | l47 | a48 | l48 | a49 | l49 | d49 | a50 | l50 | a51 | l51 | a52 | l52 | a53 | l53 | a54 | l54 | a55 | l55 | a56 | l56 | a57 | l57 | d57 | a58 | l58 | a59 | l59 | a60 | l60 | a61 | l61 | a62 | l62 | a63 | l63 | a64 | l64 | a65 | l65 | a66 | l66 | a67 | l67 | d67 | a68 | l68 | a69 | l69 | a70 | l70 | e_SIGNS | e_SMALL_LETTERS | e_LETTERS | e_LETTERS_AND_FIGURES | e_FIGURES | e_PLAIN | e_FREE_IN_STEPS | e_FREE_IN_QUESTIONS | e_FREE_IN_MARKS | e_FIRST_NUMBER | e_LAST_NUMBER | e_NUMBER_LEFT_OUT | e_SMALL_FIGURES | e_GREAT_FIGURES | e_SCHEME | e_HOUSE | e_DOOR | e_WAY | e_QUESTION | e_MARK | e_ROOTED | e_STEPS | e_ENDS | e_LONGEST_SCHEME | e_LONGEST_HOUSE | e_LAST_DOOR | e_STAY | e_UP | e_PIECES | e_CLOSES | e_LONGEST_WORD | e_FIRST_FIGURES | z_all | z_ord | z_isinstance | z_bool | z_int | z_len | z_range | z_tuple | z_str | z_dict | z_list | z_enumerate => k_is)
  (case ex_NoBase | ex_NoName | ew1_NoBase | ew2_NoBase | ew3_NoBase | ew1_NoName | ew2_NoName | ew3_NoName | ew1_NoValue | ew2_NoValue | ew3_NoValue | el0_NoBase | el1_NoBase | el2_NoBase | el3_NoBase | el4_NoBase | el5_NoBase | el0_NoName | el1_NoName | el2_NoName | el3_NoName | el4_NoName | el5_NoName | el0_NoValue | el1_NoValue | el2_NoValue | el3_NoValue | el4_NoValue | el5_NoValue | ey_NoValue | ek_NoValue | es_NoValue | eo_NoValue | eh_NoValue | ef_NoValue_name | eu_NoBase_NoBase | eu_NoName_NoName | eu_NoValue_NoValue | ev_NoBase_NoName | ev_NoName_NoBase | ev_NoValue_NoBase | ev_NoValue_NoName => first | k_is | kit_is | with_unfolding_all kernel_rfl | with_unfolding_all rfl)
  (case pg_Cursor | hd_Cursor | po_Cursor | sa_Cursor | mk_Cursor | kc_Cursor | nf_Cursor_text | nf_Cursor_place => k_is)
  (case kk | cc => first | k_is | with_unfolding_all kernel_rfl | with_unfolding_all rfl)
