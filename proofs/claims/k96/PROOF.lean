import PyProof.Rows.All
import Wide.All
import OpenK.KLine
import OpenK.KMore
import OpenK.KRaise
import OpenK.KMake
import OpenK.KOwn
import OpenK.KDescr
import OpenK.KFacts
import KE.KIntText
import KE.KIsAll
import KE.RegKIsAll
import KE.KTabLook
import KE.LcSums
import KE.KxSplit
import KE.KStrWords
import KE.KSetInts
import KE.KRevIter
import Lean
import PyProof.EqAt
import PyProof.EqKinds
import PyProof.TupleCall
import PySem.Challenge.RW_waymark_k96_whole_no_text_changes_anothe
open List(mem_filter mem_cons_self mem_cons_of_mem mem_cons mem_append mem_append_left mem_append_right length_cons map_cons length_map append_nil nodup_cons of_mem_zip length_take mem_of_getElem? length_append size_toArray length_drop all_cons any_cons replicate_succ flatten_cons append_assoc length_singleton map_nil not_mem_nil all_eq_true take_add_one map_append take_length range_succ length_range take_of_length_le drop_eq_nil_of_le drop_zero flatMap_cons getElem_mem sum_cons drop_drop mem_map cons_append mem_singleton map_map nil_append forIn_cons length_nil take_append_drop lookup_cons length_pos_iff length_filter_le filter_append filter_map range_succ_eq_map filter_cons length_eq_zero_iff map_id mem_map_of_mem take_left drop_left take_zero getElem_of_mem length_dropLast mem_reverse all_map map_drop)
set_option Elab.async false
set_option linter.all false
set_option maxRecDepth 100000
namespace L2
open PySem PySem.Spec PyProof.Rows
noncomputable abbrev Key:=Sum Int Str
noncomputable def keyIs:Key->Value->Bool
 |.inl k,v=>Value.isInt k v
 |.inr x,v=>Value.isStrOf x v
noncomputable def keyH (w:World):Key->Int
 |.inl k=>hashInt k
 |.inr x=>hashStr w x
theorem br:∀{k:Key}{v:Value},keyIs k v=true->(∃i t,k=Sum.inl i∧v=Value.int i t)∨(∃x t,k=Sum.inr x∧v=Value.str x t)
 |.inl i,v,h=>by obtain⟨t,e⟩:=Value.isInt_shape (k:=i) (v:=v) h;exact .inl ⟨i,t,rfl,e⟩
 |.inr x,v,h=>by obtain⟨t,e⟩:=Value.isStrOf_shape (x:=x) (v:=v) h;exact .inr ⟨x,t,rfl,e⟩
theorem uH (a b:Int):decide ((Sum.inl a:Key)=Sum.inl b)=(a == b):=by
 by_cases e:a=b
 ·subst e;simp
 ·have h:¬ (Sum.inl a:Key)=Sum.inl b:=fun q=>e (Sum.inl.inj q);rw[decide_eq_false h];exact (beq_eq_false_iff_ne.mpr e).symm
theorem uI (a b:Str):decide ((Sum.inr a:Key)=Sum.inr b)=decide (a=b):=by
 by_cases e:a=b
 ·subst e;simp
 ·have h:¬ (Sum.inr a:Key)=Sum.inr b:=fun q=>e (Sum.inr.inj q);rw[decide_eq_false h,decide_eq_false e]
theorem uJ (a:Int)(b:Str):decide ((Sum.inl a:Key)=Sum.inr b)=false:=decide_eq_false (fun q=>nomatch q)
theorem uK (a:Str)(b:Int):decide ((Sum.inr a:Key)=Sum.inl b)=false:=decide_eq_false (fun q=>nomatch q)
noncomputable def mixKind (prog:Program)(w:World):PySem.KeyKind prog w Key where
 is:=keyIs
 hash:=keyH w
 inj:=fun v a b ha hb=>by
  rcases br ha with⟨i,t,rfl,rfl⟩|⟨x,t,rfl,rfl⟩
  ·rcases br hb with⟨j,u,rfl,e⟩|⟨y,u,rfl,e⟩
   ·injection e with e1 _;rw[e1]
   ·exact nomatch e
  ·rcases br hb with⟨j,u,rfl,e⟩|⟨y,u,rfl,e⟩
   ·exact nomatch e
   ·injection e with e1 _;rw[e1]
 byValue:=fun k v h=>by rcases br h with⟨i,t,rfl,rfl⟩|⟨x,t,rfl,rfl⟩ <;> rfl
 pyHash:=fun hv h=>by
  rcases br hv with⟨i,t,rfl,rfl⟩|⟨x,t,rfl,rfl⟩
  ·exact wpAny_pyHash_int h
  ·exact wpAny_pyHash_str h
 eqBool:=fun hu hv h=>by
  rcases br hu with⟨i,t,rfl,rfl⟩|⟨x,t,rfl,rfl⟩
  ·rcases br hv with⟨j,u,rfl,rfl⟩|⟨y,u,rfl,rfl⟩
   ·rw[uH] at h;exact wpAny_eqBool_int h
   ·rw[uJ] at h;exact SeqAt.EqAt.int_str i t y u _ _ _ _ h
  ·rcases br hv with⟨j,u,rfl,rfl⟩|⟨y,u,rfl,rfl⟩
   ·rw[uK] at h;exact SeqAt.EqAt.str_int x t j u _ _ _ _ h
   ·rw[uI] at h;exact wpAny_eqBool_str h
 «strs»:=fun k x t v h=>by
  rcases br h with⟨i,u,rfl,e⟩|⟨y,u,rfl,e⟩
  ·exact nomatch e
  ·injection e with e1 _;subst e1;cases v <;> rfl
inductive V where
 |non|bl (b:Bool)|int (i:Int)|str (x:Str)|byt (b:Array UInt8)|flt (b:UInt64)|ref (a:Addr)|ty (n:String)
 deriving DecidableEq
noncomputable def RelV:V->Value->Prop
 |.non,u=>u=Value.none
 |.bl b,u=>u=Value.bool b
 |.int i,u=>∃t,u=Value.int i t
 |.str x,u=>∃t,u=Value.str x t
 |.byt b,u=>∃t,u=Value.bytes b t
 |.flt b,u=>∃t,u=Value.float b t
 |.ref a,u=>u=Value.ref a
 |.ty n,u=>u=Value.type n
noncomputable abbrev Vals:List V->List Value->Prop:=Paired RelV
theorem Vals.length {xs:List V}{us:List Value}(r:Vals xs us):xs.length=us.length:=Paired.length r
theorem Vals.get:∀{xs:List V}{us:List Value}{i:Nat}{x:V},Vals xs us->xs[i]?=some x->∃u,us[i]?=some u∧RelV x u
 |_,_,_,_,.nil,e=>by simp at e
 |_,_,0,_,.cons r _,e=>by simp at e;subst e;exact⟨_,rfl,r⟩
 |_,_,i+1,x,.cons _ t,e=>by obtain⟨u,h1,h2⟩:=Vals.get (i:=i) (x:=x) t (by simpa using e);exact⟨u,by simpa using h1,h2⟩
theorem Vals.append:∀{xs ys:List V}{us ws:List Value},Vals xs us->Vals ys ws->Vals (xs++ys) (us++ws)
 |_,_,_,_,.nil,s=>s
 |_,_,_,_,.cons r t,s=>.cons r (Vals.append t s)
theorem Vals.take:∀{xs:List V}{us:List Value} (n:Nat),Vals xs us->Vals (xs.take n) (us.take n)
 |_,_,0,_=>.nil
 |_,_,_+1,.nil=>.nil
 |_,_,n+1,.cons r t=>.cons r (Vals.take n t)
theorem Vals.drop:∀{xs:List V}{us:List Value} (n:Nat),Vals xs us->Vals (xs.drop n) (us.drop n)
 |_,_,0,r=>r
 |_,_,_+1,.nil=>.nil
 |_,_,n+1,.cons _ t=>Vals.drop n t
noncomputable def RelO:Option V->Option Value->Prop
 |some v,some u=>RelV v u
 |none,none=>True
 |_,_=>False
noncomputable def KV {κ:Type}:List (κ×V)->List (κ×Value)->Prop:=Paired fun (p:κ×V) (q:κ×Value)=>p.1=q.1∧RelV p.2 q.2
noncomputable def kV:Key->V
 |.inl i=>.int i
 |.inr x=>.str x
inductive HO where
 |lst (xs:List V)
 |tup (xs:List V)
 |dK (kvs:List (Key×V))|dT (kvs:List (List Key×V))
 |set (S:Int->Bool) (n:Nat)
 |ins (C dx:Addr) (fs:List (Str×V))
 |own (x:Addr)
 |xd (fs:List (Str×V))
 |met (f x:Addr)
 |rng (lo hi:Int)
 |frz (o:Obj) (u:HO)
 |tbl (ps:Array Value)
 |ext (φ:Heap->Prop)
noncomputable abbrev Hp:=Addr->Option HO
noncomputable def upd (H:Hp)(a:Addr)(o:HO):Hp:=fun b=>if b=a then some o else H b
theorem aL {H:Hp}{a:Addr}{o:HO}:upd H a o a=some o:=by unfold upd;rw[if_pos rfl]
theorem aN {H:Hp}{a b:Addr}{o:HO}(h:b≠a):upd H a o b=H b:=by unfold upd;rw[if_neg h]
theorem uL {H:Hp}{a:Addr}{o u:HO}:upd (upd H a o) a u=upd H a u:=by funext b;unfold upd;split <;> rfl
theorem ib {H:Hp}{a b:Addr}{o u:HO}(h:H a=some o)(h':H b=some u)(d:o≠u):a≠b:=by intro e;subst e;rw[h] at h';exact d (Option.some.inj h')
theorem aY {H:Hp}{a b:Addr}{o:HO}(h:H a=some o)(h':H b=none):a≠b:=by intro e;subst e;rw[h] at h';cases h'
section
variable (P:Program)(w:World)
noncomputable def ObjOk (H:Hp)(h:Heap)(a:Addr):HO->Prop
 |.lst xs=>xs.length≤sizeLine∧∃(its:List Value) (n:Nat),Vals xs its∧h.get? a=some {cls:=.type "list",data:=.seq its.toArray n}
 |.tup xs=>xs.length≤sizeLine∧∃its:List Value,Vals xs its∧IsTup h a its.toArray
 |.dK kvs=>kvs.length≤sizeLine∧(a == sysModules)=false∧∃vs,KV kvs vs∧h.DictOf (mixKind P w) a vs
 |.dT kvs=>kvs.length≤sizeLine∧(a == sysModules)=false∧∃xs:List (List Key×Addr×Value),
   Paired (fun (p:List Key×V) (q:List Key×Addr×Value)=>p.1=q.1∧H q.2.1=some (.tup (p.1.map kV))∧RelV p.2 q.2.2) kvs xs ∧
   ∃o es ep,h.get? a=some o∧o.ExactDict∧o.data=.dict es ep∧es.toList=xs.map (entryOfKey (tupleKind (mixKind P w)))∧(xs.map (·.1)).Nodup
 |.set S n=>h.SetOf (intKind P w) a S n
 |.ins C dx fs=>H dx=some (.own a)∧fs.length≤1000∧dx≠a∧h.get? a=some (PySem.W.instObj C dx) ∧
   ∃mA,h.Ns1 dx mA∧(∀f,RelO (fs.lookup f) (mA f))∧PySem.Within mA (fs.map (·.1))
 |.own _=>∃o,h.get? a=some o
 |.xd fs=>∃mA,h.Ns1 a mA∧∀f,RelO (fs.lookup f) (mA f)
 |.rng lo hi=>∃t u v,h.get? a=some {cls:=.type "range",data:=.fields #[.int lo t,.int hi u,.int 1 v]}
 |.frz o u=>h.get? a=some o∧ObjOk H h a u
 |.tbl ps=>h.get? a=some {cls:=.none,data:=.fields ps}
 |.met f x=>h.get? a=some (PySem.W.methodObj (.ref f) (.ref x))
 |.ext φ=>φ h∧(∃o,h.get? a=some o)∧∀h1 h2:Heap,φ h1->(∀o,h1.get? a=some o->h2.get? a=some o)->φ h2
noncomputable def HOk (H:Hp)(h:Heap):Prop:=∀a o,H a=some o->ObjOk P w H h a o
end
section
variable {P:Program}{w:World}{H H':Hp}{h h':Heap}{a:Addr}{o:HO}
theorem ObjOk.lt (x:ObjOk P w H h a o):a < h.objs.size:=by
 cases o with
 |lst xs=>obtain⟨_,_,_,_,e⟩:=x;exact Heap.lt_size e
 |tup xs=>obtain⟨_,_,_,p⟩:=x;exact p.lt
 |dK kvs=>obtain⟨_,_,_,_,o,_,_,e,_⟩:=x;exact Heap.lt_size e
 |dT kvs=>obtain⟨_,_,_,_,o,_,_,e,_⟩:=x;exact Heap.lt_size e
 |set S n=>obtain⟨o,_,_,_,e,_⟩:=x;exact Heap.lt_size e
 |ins C dx fs=>obtain⟨_,_,_,e,_⟩:=x;exact Heap.lt_size e
 |own y=>obtain⟨_,e⟩:=x;exact Heap.lt_size e
 |xd fs=>obtain⟨_,⟨_,_,_,e,_⟩,_⟩:=x;exact Heap.lt_size e
 |rng lo hi=>obtain⟨_,_,_,e⟩:=x;exact Heap.lt_size e
 |frz ob u=>obtain⟨e,_⟩:=x;exact Heap.lt_size e
 |tbl ps=>exact Heap.lt_size (show h.get? a=some _ from x)
 |met f y=>exact Heap.lt_size (show h.get? a=some _ from x)
 |ext φ=>obtain⟨_,⟨_,e⟩,_⟩:=x;exact Heap.lt_size e
theorem Paired.mapP {α β:Type}{F G:α->β->Prop}:∀{l₁:List α}{l₂:List β},Paired F l₁ l₂->(∀a b,F a b->G a b)->Paired G l₁ l₂
 |_,_,.nil,_=>.nil
 |_,_,.cons r t,f=>.cons (f _ _ r) (Paired.mapP t f)
theorem ObjOk.stay (x:ObjOk P w H h a o)(k:∀b u,(b=a∨H b=some (.own a))->h.get? b=some u->h'.get? b=some u)
  (ho:∀b,H b=some (.own a)->H' b=some (.own a)) (ht:∀b xs,H b=some (.tup xs)->H' b=some (.tup xs)):ObjOk P w H' h' a o:=by
 induction o with
 |lst xs=>obtain⟨z,ad,n,r,e⟩:=x;exact⟨z,ad,n,r,k _ _ (.inl rfl) e⟩
 |tup xs=>obtain⟨z,ad,r,ob,e,c⟩:=x;exact⟨z,ad,r,ob,k _ _ (.inl rfl) e,c⟩
 |dK kvs=>obtain⟨z,y,vs,r,ob,es,ep,e,c⟩:=x;exact⟨z,y,vs,r,ob,es,ep,k _ _ (.inl rfl) e,c⟩
 |dT kvs=>obtain⟨z,y,xs,r,ob,es,ep,e,c⟩:=x;exact⟨z,y,xs,Paired.mapP r fun p q z=>⟨z.1,ht _ _ z.2.1,z.2.2⟩,ob,es,ep,k _ _ (.inl rfl) e,c⟩
 |set S n=>obtain⟨ob,es,ep,t,e,c⟩:=x;exact⟨ob,es,ep,t,k _ _ (.inl rfl) e,c⟩
 |ins C dx fs=>obtain⟨d,z,ne,e,mA,⟨od,es,ep,e2,c⟩,r⟩:=x;exact⟨ho _ d,z,ne,k _ _ (.inl rfl) e,mA,⟨od,es,ep,k _ _ (.inr d) e2,c⟩,r⟩
 |own y=>obtain⟨ob,e⟩:=x;exact⟨ob,k _ _ (.inl rfl) e⟩
 |xd fs=>obtain⟨mA,⟨od,es,ep,e,c⟩,r⟩:=x;exact⟨mA,⟨od,es,ep,k _ _ (.inl rfl) e,c⟩,r⟩
 |rng lo hi=>obtain⟨t,u,v,e⟩:=x;exact⟨t,u,v,k _ _ (.inl rfl) e⟩
 |frz ob u ih=>obtain⟨e,q⟩:=x;exact⟨k _ _ (.inl rfl) e,ih q⟩
 |tbl ps=>have e:h.get? a=some {cls:=.none,data:=.fields ps}:=x;show h'.get? a=some {cls:=.none,data:=.fields ps};exact k a _ (.inl rfl) e
 |met f y=>have e:h.get? a=some (PySem.W.methodObj (.ref f) (.ref y)):=x;show h'.get? a=some (PySem.W.methodObj (.ref f) (.ref y));exact k a _ (.inl rfl) e
 |ext φ=>obtain⟨p,⟨o,e⟩,st⟩:=x;exact⟨st _ _ p fun o q=>k _ _ (.inl rfl) q,⟨o,k _ _ (.inl rfl) e⟩,st⟩
theorem HOk.lt (x:HOk P w H h)(e:H a=some o):a < h.objs.size:=(x a o e).lt
theorem HOk.fresh (x:HOk P w H h)(e:h.objs.size≤a):H a=none:=by
 cases q:H a with
 |none=>rfl
 |some u=>exact absurd (Nat.lt_of_lt_of_le (x.lt q) e) (Nat.lt_irrefl _)
theorem HOk.kept (x:HOk P w H h)(k:∀b u,h.get? b=some u->h'.get? b=some u):HOk P w H h':=fun a o e=>
 (x a o e).stay (fun b u _ q=>k b u q) (fun _ q=>q) fun _ _ q=>q
theorem HOk.laid (x:HOk P w H h)(k:∀b u,h.get? b=some u->h'.get? b=some u)(hp:h.objs.size≤a)(new:ObjOk P w (upd H a o) h' a o):HOk P w (upd H a o) h':=fun b u e=>by
 have hn:=x.fresh hp;by_cases hb:b=a
 ·subst hb;rw[aL] at e;cases e;exact new
 ·rw[aN hb] at e;exact (x b u e).stay (fun c v _ q=>k c v q) (fun c q=>by rw[aN (aY q hn)];exact q) fun c xs q=>by rw[aN (aY q hn)];exact q
end
noncomputable def Rd (H:Hp)(a:Addr)(u:HO):Prop:=H a=some u∨∃o,H a=some (.frz o u)
theorem Rd.ok {P:Program}{w:World}{H:Hp}{h:Heap}{a:Addr}{u:HO}(r:Rd H a u)(x:HOk P w H h):ObjOk P w H h a u:=by
 rcases r with r|⟨o,r⟩
 ·exact x a u r
 ·obtain⟨_,q⟩:=x a _ r;exact q
noncomputable def Mut:Option HO->Prop
 |some (.lst _)=>True
 |some (.dK _)=>True
 |some (.dT _)=>True
 |some (.set _ _)=>True
 |some (.ins _ _ _)=>True
 |some (.ext _)=>True
 |_=>False
section
variable {P:Program}{w:World}{H:Hp}{h h':Heap}{x e:Addr}{o':HO}
theorem HOk.write (ok:HOk P w H h)(mu:Mut (H x))(he:e=x∨H e=some (.own x))(k:∀b u,b≠e->h.get? b=some u->h'.get? b=some u)(heo:∃u,h'.get? e=some u)
  (new:ObjOk P w (upd H x o') h' x o'):HOk P w (upd H x o') h':=fun b u q=>by
 have nown:∀c y,H c=some (.own y)->c≠x:=fun c y r z=>by subst z;rw[r] at mu;exact mu
 have ntup:∀c xs,H c=some (.tup xs)->c≠x:=fun c xs r z=>by subst z;rw[r] at mu;exact mu
 by_cases hb:b=x
 ·subst hb;rw[aL] at q;cases q;exact new
 ·rw[aN hb] at q;by_cases hbe:b=e
  ·have q':H b=some (.own x):=by
    rcases he with z|z
    ·exact absurd (hbe.trans z) hb
    ·rw[hbe];exact z
   rw[q] at q';cases q';obtain⟨v,hv⟩:=heo;exact⟨v,by rw[hbe];exact hv⟩
  ·refine (ok b u q).stay (fun c v hc r=>k c v ?_ r) (fun c r=>by rw[aN (nown c b r)];exact r) fun c xs r=>by rw[aN (ntup c xs r)];exact r
   rcases hc with rfl|hc
   ·exact hbe
   ·rintro rfl;rcases he with z|z
    ·exact nown c b hc z
    ·rw[hc] at z;cases z;exact hb rfl
end
structure Un (fs ex:List Addr)(H H':Hp)(h h':Heap):Prop where
 keep:∀b o,h.get? b=some o->H b=none->b∉fs->b∉ex->h'.get? b=some o
 slot:∀b o,h.get? b=some o->H b=none->b∈fs->b∉ex->∃sl,h'.get? b=some {o with slots:=sl}
 free:∀b o,h.get? b=some o->H b=none->b∉ex->H' b=none
 there:∀b o,h.get? b=some o->b∉ex->∃o',h'.get? b=some o'
 tups:∀b xs,H b=some (.tup xs)->H' b=some (.tup xs)
 frzs:∀b o u,H b=some (.frz o u)->H' b=some (.frz o u)
 tbls:∀b ps,H b=some (.tbl ps)->∃more,H' b=some (.tbl (ps++more))
section
variable {fs fs' ex ex':List Addr}{H H1 H2:Hp}{h h1 h2 h':Heap}{a x e:Addr}{o:HO}
theorem Un.any (u:Un fs ex H H1 h h1){b:Addr}{ob:Obj}(q:h.get? b=some ob)(n:H b=none)(hx:b∉ex):∃sl,h1.get? b=some {ob with slots:=sl}:=by
 by_cases hb:b∈fs
 ·exact u.slot b ob q n hb hx
 ·exact⟨ob.slots,u.keep b ob q n hb hx⟩
theorem Un.kept (k:∀b u,h.get? b=some u->h'.get? b=some u):Un fs ex H H h h':=
 ⟨fun b ob q _ _ _=>k b ob q,fun b ob q _ _ _=>⟨ob.slots,k b ob q⟩,fun _ _ _ n _=>n,fun b ob q _=>⟨ob,k b ob q⟩,fun _ _ q=>q,fun _ _ _ q=>q,fun _ ps q=>⟨#[],by rw[q];simp⟩⟩
theorem Un.refl:Un fs ex H H h h:=Un.kept fun _ _ q=>q
theorem Un.laid (k:∀b u,h.get? b=some u->h'.get? b=some u)(hp:h.objs.size≤a)(hn:H a=none):Un fs ex H (upd H a o) h h' where
 keep:=fun b u q _ _ _=>k b u q
 slot:=fun b u q _ _ _=>⟨u.slots,k b u q⟩
 free:=fun b u q n _=>by rw[aN (Nat.ne_of_lt (Nat.lt_of_lt_of_le (Heap.lt_size q) hp))];exact n
 there:=fun b u q _=>⟨u,k b u q⟩
 tups:=fun b xs q=>by rw[aN (aY q hn)];exact q
 frzs:=fun b u xs q=>by rw[aN (aY q hn)];exact q
 tbls:=fun b ps q=>⟨#[],by rw[aN (aY q hn),q];simp⟩
theorem Un.write (mu:Mut (H x))(he:e=x∨H e=some (.own x))(k:∀b u,b≠e->h.get? b=some u->h'.get? b=some u)(heo:∃u,h'.get? e=some u):Un fs ex H (upd H x o) h h':=by
 have hx:∀b,H b=none->b≠x:=fun b n z=>by subst z;rw[n] at mu;exact mu
 have hb:∀b,H b=none->b≠e:=fun b n z=>by
  subst z;rcases he with r|r
  ·exact hx b n r
  ·rw[n] at r;cases r
 have hm:∀b u,H b=some u->¬ Mut (some u)->b≠x:=fun b u q nm z=>by subst z;rw[q] at mu;exact nm mu
 refine⟨fun b u q n _ _=>k b u (hb b n) q,fun b u q n _ _=>⟨u.slots,k b u (hb b n) q⟩,fun b u q n _=>by rw[aN (hx b n)];exact n,fun b u q _=>?_,
  fun b xs q=>by rw[aN (hm b _ q fun z=>z)];exact q,fun b u xs q=>by rw[aN (hm b _ q fun z=>z)];exact q,fun b ps q=>⟨#[],by rw[aN (hm b _ q fun z=>z),q];simp⟩⟩
 by_cases ad:b=e
 ·subst ad;exact heo
 ·exact⟨u,k b u ad q⟩
end
noncomputable def trk (h:Heap)(H:Hp):List Addr:=(List.range h.objs.size).filter fun a=>(H a).isSome
noncomputable def hidT (h:Heap)(H:Hp):Heap:=PySem.W.hideAll h (trk h H)
theorem uM (h:Heap)(H:Hp):(hidT h H).objs.size=h.objs.size:=PySem.W.hideAll_size _ _
theorem uN {h:Heap}{H:Hp}{b:Addr}{o:Obj}(e:h.get? b=some o)(n:H b=none):(hidT h H).get? b=some o:=
 PySem.W.hideAll_get _ e fun hm=>by have q:(H b).isSome=true:=(mem_filter.mp hm).2;rw[n] at q;simp at q
theorem uO {h:Heap}{H:Hp}{b:Addr}{o:Obj}(e:(hidT h H).get? b=some o):h.get? b=some o∧H b=none:=by
 have e':h.get? b=some o:=PySem.W.of_hideAll (trk h H) e;refine⟨e',?_⟩;cases q:H b with
 |none=>rfl
 |some x=>have hm:b∈trk h H:=mem_filter.mpr ⟨List.mem_range.mpr (Heap.lt_size e'),by simp[q]⟩;have z:(hidT h H).get? b=none:=PySem.W.hideAll_none (trk h H) hm;rw[z] at e;cases e
noncomputable def allNews (g h:Heap)(L:Addr):List (Addr×Obj):=(List.range h.objs.size).filterMap fun a=>if a=L∨(g.get? a).isSome=true then none else (h.get? a).map fun o=>(a,o)
noncomputable def rest (g h:Heap)(L d:Addr):List (Addr×Obj):=(allNews g h L).filter fun p=>decide (p.1≠d)
structure Mod (K:W.Frag)(mg:Str->Option Value)(base:Heap):Prop where
 kin:K.In base
 glob:base.Ns mainGlobals mg
 blt:∃mb,base.Ns builtinsNs mb∧∀x:Str,x ≠ "__name__" -> mb x=bootBuiltins x
 nolimit:base.NoLimit
structure Cx where
 prog:Program
 w:World
 K:W.Frag
 mg:Str->Option Value
 base:Heap
 A:Around
 N:List Str
 s₀:Shared
 H₀:Hp
 env:Env
 outer:List Env
 stack:List Env
 ex:List Addr
 fn:Str->Bool
 calm:Bool
 pn:List (Addr×Obj)
 xe:Value->Shared->Prop
noncomputable def frs (l:List Env):List Addr:=l.filterMap (·.frame)
noncomputable abbrev Cx.fs (X:Cx):List Addr:=frs X.outer
noncomputable def Vis (sc:Scope)(x:Str):Prop:=sc.names.lookup x=some .local∨sc.names.lookup x=some .cell∨sc.names.lookup x=some .free
noncomputable def Loc (sc:Scope)(x:Str):Prop:=sc.names.lookup x=some .local∨sc.names.lookup x=some .cell
noncomputable def Look (env:Env)(h:Heap)(m:Str->Option Value)(x:Str)(u:Value):Prop:=
 (env.kindOf x=some .local∧m x=some u)∨((env.kindOf x=some .cell∨env.kindOf x=some .free)∧∃c,env.cells.lookup x=some c∧h.IsCell c (some u))
structure Cx.Ok (X:Cx):Prop where
 mod:Mod X.K X.mg X.base
 kind:X.env.scope.kind=.function
 glob:X.env.globals=mainGlobals
 blt:X.env.builtins=builtinsNs
 above:X.s₀.heap.objs.size≤X.env.locals
 inj:∀x y c,X.env.cells.lookup x=some c->X.env.cells.lookup y=some c->x=y
 has:∀x,(X.env.kindOf x=some .cell∨X.env.kindOf x=some .free)->∃c,X.env.cells.lookup x=some c
 cab:∀x c,X.fn x=true->X.env.cells.lookup x=some c->X.s₀.heap.objs.size≤c
 hd:X.calm=true->X.A.handled=none
 frames:X.A.frames=some X.stack
 stk:X.stack=X.outer∨(X.stack=X.env::X.outer∧X.env.frame=some X.env.locals)
 exf:∀b∈X.ex,b≠X.env.locals∧∀x c,X.env.cells.lookup x=some c->c≠b
 bs:∀b o,X.base.get? b=some o->X.s₀.heap.get? b=some o∧X.H₀ b=none
 bsz:X.base.objs.size≤X.s₀.heap.objs.size
 noex:∀b o,X.base.get? b=some o->b∉X.ex
 exfs:∀b∈X.ex,b∉X.fs
 funs:X.s₀.heap.FunFrames X.base X.outer
 frf:∀b∈X.fs,X.H₀ b=none
structure Inv (X:Cx)(pins:List (Addr×Obj))(σ:List (Option V))(H:Hp)(s:Shared):Prop where
 ok:X.Ok
 os:s.os=X.s₀.os
 bare:AllBare s.gens
 base:Un X.fs X.ex X.H₀ H X.s₀.heap s.heap
 loc:∃m,s.heap.Ns X.env.locals m∧∀(i:Nat) (x:Str) (v:V),X.N[i]?=some x->σ[i]?=some (some v)->Vis X.env.scope x->∃u,RelV v u∧Look X.env s.heap m x u
 cell:∀x c,X.env.cells.lookup x=some c->∃v,s.heap.IsCell c v
 free:H X.env.locals=none
 freeC:∀x c,X.env.cells.lookup x=some c->H c=none
 pin:∀p∈X.pn++pins,s.heap.get? p.1=some p.2∧H p.1=none∧p.1≠X.env.locals∧p.1∉X.fs∧∀v,p.2.data≠.cell v
 hok:HOk X.prog X.w H s.heap
 len:σ.length=X.N.length
section
variable {X:Cx}{pins:List (Addr×Obj)}{σ:List (Option V)}{H H':Hp}{s:Shared}{h':Heap}
theorem Cx.Ok.nofr (ok:X.Ok){b:Addr}{o:Obj}(e:X.base.get? b=some o):b∉X.fs:=fun hb=>by have:=(ok.funs.mem hb).1;rw[e] at this;cases this
theorem Inv.bs (I:Inv X pins σ H s):∀b o,X.base.get? b=some o->s.heap.get? b=some o∧H b=none:=fun b o e=>
 ⟨I.base.keep b o (I.ok.bs b o e).1 (I.ok.bs b o e).2 (I.ok.nofr e) (I.ok.noex b o e),I.base.free b o (I.ok.bs b o e).1 (I.ok.bs b o e).2 (I.ok.noex b o e)⟩
theorem Inv.bk (I:Inv X pins σ H s):∀b o,X.base.get? b=some o->s.heap.get? b=some o:=fun b o e=>(I.bs b o e).1
theorem Inv.mod (I:Inv X pins σ H s):Mod X.K X.mg X.base:=I.ok.mod
theorem Inv.kIn (I:Inv X pins σ H s):X.K.In s.heap:=I.ok.mod.kin.keeps I.bk
theorem Inv.lt (I:Inv X pins σ H s):X.env.locals < s.heap.objs.size:=let ⟨_,hn,_⟩:=I.loc;hn.lt
theorem Inv.sz (I:Inv X pins σ H s):X.s₀.heap.objs.size≤s.heap.objs.size:=Nat.le_trans I.ok.above (Nat.le_of_lt I.lt)
theorem Inv.nofs (I:Inv X pins σ H s){a:Addr}(h:s.heap.objs.size≤a):a∉X.fs:=fun hb=>by obtain⟨_,o,ho,_⟩:=I.ok.funs.mem hb;exact absurd (Nat.lt_of_lt_of_le (Heap.lt_size ho) (Nat.le_trans I.sz h)) (Nat.lt_irrefl _)
theorem Inv.cne (I:Inv X pins σ H s):∀x c,X.env.cells.lookup x=some c->c≠X.env.locals:=fun x c e z=>by obtain⟨v,o,ho,hd⟩:=I.cell x c e;obtain⟨m,⟨o',es,ep,ho',hd',_⟩,_⟩:=I.loc;rw[z,ho'] at ho;cases ho;rw[hd'] at hd;cases hd
theorem Inv.funs (I:Inv X pins σ H s):s.heap.FunFrames X.base X.outer:=by
 have ad:∀(l:List Env),(∀b∈frs l,b∈X.fs)->X.s₀.heap.FunFrames X.base l->s.heap.FunFrames X.base l:=by
  intro l;induction l with
  |nil=>intro _ _;trivial
  |cons env r ih=>intro hs hl;obtain⟨hk,⟨L,o,hf,hn,ho,hd⟩,hr⟩:=hl;have hL:L∈X.fs:=hs L (by unfold frs;rw[List.filterMap_cons,hf];exact mem_cons_self);obtain⟨sl,e⟩:=I.base.slot L o ho (I.ok.frf L hL) hL fun z=>I.ok.exfs L z hL;exact⟨hk,⟨L,_,hf,hn,e,hd⟩,ih (fun b hb=>hs b (by unfold frs;rw[List.filterMap_cons,hf];exact mem_cons_of_mem _ hb)) hr⟩
 exact ad X.outer (fun _ hb=>hb) I.ok.funs
theorem Inv.stack (I:Inv X pins σ H s):s.heap.FunFrames X.base X.stack:=by
 rcases I.ok.stk with e|⟨e,hf⟩
 ·rw[e];exact I.funs
 ·rw[e];obtain⟨m,hn,_⟩:=I.loc;refine .cons (by rw[I.ok.kind];decide) hf hn ?_ I.funs;exact Heap.get?_none_of_le (Nat.le_trans I.ok.bsz I.ok.above)
theorem Inv.stkSub (I:Inv X pins σ H s):∀b∈frs X.stack,b∈X.env.locals::X.fs:=fun b hb=>by
 rcases I.ok.stk with e|⟨e,hf⟩
 ·rw[e] at hb;exact mem_cons_of_mem _ hb
 ·rw[e] at hb;unfold frs at hb;rw[List.filterMap_cons,hf] at hb;exact hb
theorem Inv.stkFree (I:Inv X pins σ H s):∀b∈frs X.stack,H b=none:=fun b hb=>by
 rcases mem_cons.mp (I.stkSub b hb) with e|hb
 ·rw[e];exact I.free
 ·obtain⟨_,o,ho,_⟩:=I.ok.funs.mem hb;exact I.base.free b o ho (I.ok.frf b hb) fun z=>I.ok.exfs b z hb
theorem Inv.step {g':Array GenState}{t':Nat}{d':Drawn}{ch:List Addr}(I:Inv X pins σ H s)
  (hch:∀b∈ch,(b∈X.ex∨X.s₀.heap.objs.size≤b)∧b≠X.env.locals∧(∀x c,X.env.cells.lookup x=some c->c≠b)∧∀p∈X.pn++pins,p.1≠b)
  (keep:∀b o,b≠X.env.locals->b∉X.fs->b∉ch->s.heap.get? b=some o->H b=none->h'.get? b=some o)
  (slot:∀b o,b≠X.env.locals->b∈X.fs->b∉ch->s.heap.get? b=some o->H b=none->∃sl,h'.get? b=some {o with slots:=sl}) (free:∀b o,b∉ch->s.heap.get? b=some o->H b=none->H' b=none)
  (there:∀b o,b∉ch->s.heap.get? b=some o->∃o',h'.get? b=some o')
  (tups:∀b xs,H b=some (.tup xs)->H' b=some (.tup xs)) (frzs:∀b o u,H b=some (.frz o u)->H' b=some (.frz o u)) (tbls:∀b ps,H b=some (.tbl ps)->∃more,H' b=some (.tbl (ps++more)))
  (ns:∀m,s.heap.Ns X.env.locals m->h'.Ns X.env.locals m) (hok:HOk X.prog X.w H' h') (hg:AllBare g') :
  Inv X pins σ H' { s with heap:=h',gens:=g',drawn:=d',toks:=t' }:=by
 have mt:∀b o,X.s₀.heap.get? b=some o->b≠X.env.locals:=fun b o e=>Nat.ne_of_lt (Nat.lt_of_lt_of_le (Heap.lt_size e) I.ok.above);have ld:∀b o,X.s₀.heap.get? b=some o->b∉X.ex->b∉ch:=fun b o e hx hb=>by
  rcases (hch b hb).1 with z|z
  ·exact hx z
  ·exact absurd (Nat.lt_of_lt_of_le (Heap.lt_size e) z) (Nat.lt_irrefl _)
 have ad:∀x c,X.env.cells.lookup x=some c->∀v,s.heap.IsCell c v->h'.IsCell c v:=fun x c e v ⟨o,ho,hd⟩=>by
  have dl:c∉ch:=fun z=>(hch c z).2.2.1 x c e rfl;by_cases hc:c∈X.fs
  ·obtain⟨sl,q⟩:=slot c o (I.cne x c e) hc dl ho (I.freeC x c e);exact⟨_,q,hd⟩
  ·exact⟨o,keep c o (I.cne x c e) hc dl ho (I.freeC x c e),hd⟩
 refine⟨I.ok,I.os,hg,⟨fun b o e n hb hx=>?_,fun b o e n hb hx=>?_,fun b o e n hx=>?_,fun b o e hx=>?_,fun b xs e=>tups b xs (I.base.tups b xs e),fun b o xs e=>frzs b o xs (I.base.frzs b o xs e),fun b ps e=>?_⟩,?_,fun x c e=>?_,?_,fun x c e=>?_,fun p hp=>?_,hok,I.len⟩
 ·exact keep b o (mt b o e) hb (ld b o e hx) (I.base.keep b o e n hb hx) (I.base.free b o e n hx)
 ·obtain⟨sl,e1⟩:=I.base.slot b o e n hb hx;obtain⟨BT,e2⟩:=slot b _ (mt b o e) hb (ld b o e hx) e1 (I.base.free b o e n hx);exact⟨BT,e2⟩
 ·obtain⟨o',e1⟩:=I.base.there b o e hx;exact free b o' (ld b o e hx) e1 (I.base.free b o e n hx)
 ·obtain⟨o',e1⟩:=I.base.there b o e hx;exact there b o' (ld b o e hx) e1
 ·obtain⟨m1,e1⟩:=I.base.tbls b ps e;obtain⟨m2,e2⟩:=tbls b _ e1;exact⟨m1++m2,by rw[e2,Array.append_assoc]⟩
 ·obtain⟨m,hn,hl⟩:=I.loc;refine⟨m,ns m hn,fun i x v e1 e2 e3=>?_⟩;obtain⟨u,r,l⟩:=hl i x v e1 e2 e3;refine⟨u,r,?_⟩;rcases l with l|⟨k,c,e,z⟩
  ·exact .inl l
  ·exact .inr ⟨k,c,e,ad x c e _ z⟩
 ·obtain⟨v,z⟩:=I.cell x c e;exact⟨v,ad x c e v z⟩
 ·obtain⟨m,⟨o,_,_,ho,_⟩,_⟩:=I.loc;exact free _ o (fun z=>(hch _ z).2.1 rfl) ho I.free
 ·obtain⟨v,o,ho,hd⟩:=I.cell x c e;exact free c o (fun z=>(hch c z).2.2.1 x c e rfl) ho (I.freeC x c e)
 ·obtain⟨e,n,ne,nf,d⟩:=I.pin p hp;have dl:p.1∉ch:=fun z=>(hch p.1 z).2.2.2 p hp rfl;exact⟨keep p.1 p.2 ne nf dl e n,free p.1 p.2 dl e n,ne,nf,d⟩
theorem Inv.un {t':Nat}(I:Inv X pins σ H s)(u:Un X.fs [] H H' s.heap h')(hok:HOk X.prog X.w H' h'):Inv X pins σ H' { s with heap:=h',toks:=t' }:=by
 obtain⟨m,⟨o,es,ep,ho,r⟩,_⟩:=id I.loc;obtain⟨sl,hL⟩:=u.any ho I.free (by simp);exact I.step (g':=s.gens) (d':=s.drawn) (ch:=[]) (fun _ z=>nomatch z) (fun b o _ hb _ e n=>u.keep b o e n hb (by simp)) (fun b o _ hb _ e n=>u.slot b o e n hb (by simp)) (fun b o _ e n=>u.free b o e n (by simp)) (fun b o _ e=>u.there b o e (by simp)) u.tups u.frzs u.tbls (fun m' hm=>by obtain⟨o',dl,ld,ad,r'⟩:=hm;rw[ho] at ad;cases ad;exact⟨_,dl,ld,hL,r'⟩) hok I.bare
theorem Inv.call {g':Array GenState}{t':Nat}{d':Drawn}{ch:List Addr}(I:Inv X pins σ H s)(u:Un (frs X.stack) ch H H' s.heap h')(hok:HOk X.prog X.w H' h')(hg:AllBare g')
  (hch:∀b∈ch,(b∈X.ex∨X.s₀.heap.objs.size≤b)∧b≠X.env.locals∧(∀x c,X.env.cells.lookup x=some c->c≠b)∧∀p∈X.pn++pins,p.1≠b) :
  Inv X pins σ H' { s with heap:=h',gens:=g',drawn:=d',toks:=t' }:=by
 obtain⟨m,⟨o,es,ep,ho,r⟩,_⟩:=id I.loc;obtain⟨sl,hL⟩:=u.any ho I.free fun z=>(hch _ z).2.1 rfl;exact I.step (ch:=ch) hch (fun b o hL hb hc e n=>u.keep b o e n (fun z=>(mem_cons.mp (I.stkSub b z)).elim hL hb) hc) (fun b o _ _ hc e n=>u.any e n hc) (fun b o hc e n=>u.free b o e n hc) (fun b o hc e=>u.there b o e hc) u.tups u.frzs u.tbls (fun m' hm=>by obtain⟨o',dl,ld,ad,r'⟩:=hm;rw[ho] at ad;cases ad;exact⟨_,dl,ld,hL,r'⟩) hok hg
theorem Inv.turned {t':Nat}{it:Addr}(I:Inv X pins σ H s)(k:∀b o,b≠it->s.heap.get? b=some o->h'.get? b=some o)(hn:H it=none)(hL:it≠X.env.locals)
  (h1:it∈X.ex∨X.s₀.heap.objs.size≤it) (h2:∀x c,X.env.cells.lookup x=some c->c≠it) (h3:∀p∈X.pn++pins,p.1≠it):Inv X pins σ H {s with heap:=h',toks:=t' }:=by
 have ad:∀b u,H b=some u->b≠it:=fun b u e z=>by rw[z,hn] at e;cases e
 refine I.step (g':=s.gens) (d':=s.drawn) (ch:=[it]) (fun b hb=>?_) (fun b o _ _ hc e _=>k b o (fun z=>hc (by simp[z])) e) (fun b o _ _ hc e _=>⟨o.slots,k b o (fun z=>hc (by simp[z])) e⟩) (fun _ _ _ _ n=>n)
  (fun b o hc e=>⟨o,k b o (fun z=>hc (by simp[z])) e⟩) (fun _ _ e=>e) (fun _ _ _ e=>e) (fun b ps e=>⟨#[],by rw[e];simp⟩) (fun m hm=>?_) (fun b u e=>?_) I.bare
 ·have e:b=it:=by simpa using hb
  subst e;exact⟨h1,hL,h2,h3⟩
 ·obtain⟨o,es,ep,ho,r⟩:=hm;exact⟨o,es,ep,k _ o (Ne.symm hL) ho,r⟩
 ·refine (I.hok b u e).stay (fun c v hc q=>k c v ?_ q) (fun _ q=>q) fun _ _ q=>q;rcases hc with z|z
  ·rw[z];exact ad b u e
  ·exact ad c _ z
theorem Inv.tok (I:Inv X pins σ H s)(t:Nat):Inv X pins σ H {s with toks:=t}:=I.un (h':=s.heap) (t':=t) Un.refl I.hok
theorem Inv.kept {t':Nat}(I:Inv X pins σ H s)(k:∀b u,s.heap.get? b=some u->h'.get? b=some u):Inv X pins σ H {s with heap:=h',toks:=t' }:=I.un (Un.kept k) (I.hok.kept k)
theorem Inv.laid {a:Addr}{o:HO}{t':Nat}(I:Inv X pins σ H s)(k:∀b u,s.heap.get? b=some u->h'.get? b=some u)(hp:s.heap.objs.size≤a)(new:ObjOk X.prog X.w (upd H a o) h' a o) :
  Inv X pins σ (upd H a o) {s with heap:=h',toks:=t' }:=I.un (Un.laid k hp (I.hok.fresh hp)) (I.hok.laid k hp new)
theorem Inv.write {x e:Addr}{o:HO}{t':Nat}(I:Inv X pins σ H s)(mu:Mut (H x))(he:e=x∨H e=some (.own x))(k:∀b u,b≠e->s.heap.get? b=some u->h'.get? b=some u)(heo:∃u,h'.get? e=some u)
  (new:ObjOk X.prog X.w (upd H x o) h' x o):Inv X pins σ (upd H x o) {s with heap:=h',toks:=t' }:=I.un (Un.write mu he k heo) (I.hok.write mu he k heo new)
theorem Inv.pins_of {pins':List (Addr×Obj)}(I:Inv X pins σ H s)(h:∀p∈pins',s.heap.get? p.1=some p.2∧H p.1=none∧p.1≠X.env.locals∧p.1∉X.fs∧∀v,p.2.data≠.cell v):Inv X pins' σ H s:=
 ⟨I.ok,I.os,I.bare,I.base,I.loc,I.cell,I.free,I.freeC,fun p hp=>(mem_append.mp hp).elim (fun z=>I.pin p (mem_append_left _ z)) (h p),I.hok,I.len⟩
theorem lZ {N:List Str}(hN:N.Nodup){i j:Nat}{x:Str}(a:N[i]?=some x)(b:N[j]?=some x):i=j:=by obtain⟨h1,e1⟩:=List.getElem?_eq_some_iff.mp a;obtain⟨h2,e2⟩:=List.getElem?_eq_some_iff.mp b;exact (List.getElem_inj hN).mp (e1.trans e2.symm)
theorem ic {M:Model}{A:Around}{E:Value->Shared->Prop}{i:Nat}{x:Str}{v:V}{u:Value}{Q:Unit->Shared->Prop}(I:Inv X pins σ H s)(hN:X.N.Nodup)(hi:X.N[i]?=some x)(hx:Loc X.env.scope x)(r:RelV v u)
  (h:∀s',Inv X pins (σ.set i (some v)) H s'->(∃a,Heap.SameBut a s.heap s'.heap∧(a=X.env.locals∨X.env.cells.lookup x=some a))->Q () s') (hf:X.fn x=true∨X.env.scope.names.lookup x=some .local:=by first|exact .inl rfl|exact .inr rfl|assumption):wpAny M A (storeName X.env x u) Q E s:=by
 obtain⟨m,hn,hl⟩:=id I.loc;have BT:(X.env.scope.kind == .class || (X.env.scope.kind == .module && X.env.locals != X.env.globals))=false:=by rw[I.ok.kind];rfl
 have hiσ:i < σ.length:=by rw[I.len];exact (List.getElem?_eq_some_iff.mp hi).1
 have Fx:=I.cne;have ad:∀{a:Addr}{h':Heap},(∃o,s.heap.get? a=some o∧H a=none)->Heap.SameBut a s.heap h'->HOk X.prog X.w H h':=fun {a h'} ha hs b ob e=>by
  obtain⟨_,_,dl⟩:=ha;refine (I.hok b ob e).stay (fun c w' hc q=>(hs.2 c ?_).trans q) (fun _ q=>q) fun _ _ q=>q;rintro rfl;rcases hc with rfl|hc
  ·rw[dl] at e;cases e
  ·rw[dl] at hc;cases hc
 rcases hx with hk|hk
 ·refine wpAny_storeName_local hk hn (fun h' Fz hs=>?_) BT;obtain⟨oL,_,_,Fy,_⟩:=id hn;refine h _ ⟨I.ok,I.os,I.bare,⟨fun b o e n hb hx=>?_,fun b o e n hb hx=>?_,I.base.free,fun b o e hx=>?_,I.base.tups,I.base.frzs,I.base.tbls⟩,⟨_,Fz,fun j y v' e1 e2 e3=>?_⟩,fun y c e=>?_,I.free,I.freeC,fun p hp=>?_,ad ⟨oL,Fy,I.free⟩ hs,by simpa using I.len⟩ ⟨_,hs,.inl rfl⟩
  ·exact (hs.2 b (Nat.ne_of_lt (Nat.lt_of_lt_of_le (Heap.lt_size e) I.ok.above))).trans (I.base.keep b o e n hb hx)
  ·obtain⟨sl,e1⟩:=I.base.slot b o e n hb hx;exact⟨sl,(hs.2 b (Nat.ne_of_lt (Nat.lt_of_lt_of_le (Heap.lt_size e) I.ok.above))).trans e1⟩
  ·obtain⟨o',e1⟩:=I.base.there b o e hx;exact⟨o',(hs.2 b (Nat.ne_of_lt (Nat.lt_of_lt_of_le (Heap.lt_size e) I.ok.above))).trans e1⟩
  ·by_cases hj:j=i
   ·subst hj;rw[hi] at e1;cases e1;rw[List.getElem?_set_self hiσ] at e2;cases e2;exact⟨u,r,.inl ⟨hk,by simp⟩⟩
   ·rw[List.getElem?_set_ne (Ne.symm hj)] at e2;obtain⟨u',r',q⟩:=hl j y v' e1 e2 e3;refine⟨u',r',?_⟩;rcases q with⟨k,e⟩|⟨k,c,e,z⟩
    ·refine .inl ⟨k,?_⟩;have:y≠x:=fun e=>hj (lZ hN e1 (e▸hi));simp[this,e]
    ·exact .inr ⟨k,c,e,z.sameBut hs (Fx y c e)⟩
  ·obtain⟨w',z⟩:=I.cell y c e;exact⟨w',z.sameBut hs (Fx y c e)⟩
  ·obtain⟨e,n,ne,nf,d⟩:=I.pin p hp;exact⟨(hs.2 p.1 ne).trans e,n,ne,nf,d⟩
 ·have mt:X.fn x=true:=by
   rcases hf with z|z
   ·exact z
   ·rw[z] at hk;cases hk
  obtain⟨c,hc⟩:=I.ok.has x (.inl hk);obtain⟨w',z⟩:=I.cell x c hc;refine wpAny_storeName_cell I.ok.kind hk hc z (fun h' Fr hs=>?_);obtain⟨oc,Cl,ld⟩:=id z;refine h {s with heap:=h' } ⟨I.ok,I.os,I.bare,⟨fun b o e n hb hx=>?_,fun b o e n hb hx=>?_,I.base.free,fun b o e hx=>?_,I.base.tups,I.base.frzs,I.base.tbls⟩,⟨m,hn.sameBut hs (Ne.symm (Fx x c hc)),fun j y v' e1 e2 e3=>?_⟩,fun y c' e=>?_,I.free,I.freeC,fun p hp=>?_,ad ⟨oc,Cl,I.freeC x c hc⟩ hs,by simpa using I.len⟩ ⟨c,hs,.inr hc⟩
  ·exact (hs.2 b (Nat.ne_of_lt (Nat.lt_of_lt_of_le (Heap.lt_size e) (I.ok.cab x c mt hc)))).trans (I.base.keep b o e n hb hx)
  ·obtain⟨sl,e1⟩:=I.base.slot b o e n hb hx;exact⟨sl,(hs.2 b (Nat.ne_of_lt (Nat.lt_of_lt_of_le (Heap.lt_size e) (I.ok.cab x c mt hc)))).trans e1⟩
  ·obtain⟨o',e1⟩:=I.base.there b o e hx;exact⟨o',(hs.2 b (Nat.ne_of_lt (Nat.lt_of_lt_of_le (Heap.lt_size e) (I.ok.cab x c mt hc)))).trans e1⟩
  ·by_cases hj:j=i
   ·subst hj;rw[hi] at e1;cases e1;rw[List.getElem?_set_self hiσ] at e2;cases e2;exact⟨u,r,.inr ⟨.inl hk,c,hc,Fr⟩⟩
   ·rw[List.getElem?_set_ne (Ne.symm hj)] at e2;obtain⟨u',r',q⟩:=hl j y v' e1 e2 e3;refine⟨u',r',?_⟩;rcases q with q|⟨k,c',e,z'⟩
    ·exact .inl q
    ·refine .inr ⟨k,c',e,z'.sameBut hs ?_⟩;rintro rfl;exact hj (lZ hN e1 (I.ok.inj _ _ _ e hc▸hi))
  ·by_cases Fn:c'=c
   ·subst Fn;exact⟨_,Fr⟩
   ·obtain⟨w2,z2⟩:=I.cell y c' e;exact⟨w2,z2.sameBut hs Fn⟩
  ·obtain⟨e,n,ne,nf,d⟩:=I.pin p hp;refine⟨(hs.2 p.1 ?_).trans e,n,ne,nf,d⟩;intro q;rw[q,Cl] at e;have q':oc=p.2:=Option.some.inj e;exact d w' (by rw[<- q'];exact ld)
theorem la {M:Model}{A:Around}{E:Value->Shared->Prop}{i:Nat}{x:Str}{v:V}{u:Value}{Q:Unit->Shared->Prop}(I:Inv X pins σ H s)(hN:X.N.Nodup)(hi:X.N[i]?=some x)(hx:Loc X.env.scope x)(r:RelV v u)
  (h:∀s',Inv X pins (σ.set i (some v)) H s'->Q () s') (hf:X.fn x=true∨X.env.scope.names.lookup x=some .local:=by first|exact .inl rfl|exact .inr rfl|assumption):wpAny M A (storeName X.env x u) Q E s:=
 ic I hN hi hx r (fun s' I' _=>h s' I') hf
end
noncomputable abbrev XK:=Value->Option Addr->Hp->Prop
noncomputable abbrev St:=List (Option V)
noncomputable abbrev VK:=V->Hp->Prop
noncomputable abbrev TE:=St->Hp->VK->Prop
noncomputable abbrev TT:=St->Hp->(Bool->Hp->Prop)->Prop
noncomputable abbrev TA:=St->Hp->(List V->Hp->Prop)->Prop
structure Ends where
 nx:St->Hp->Prop
 rt:VK
 bk:St->Hp->Prop:=fun _ _=>False
 ct:St->Hp->Prop:=fun _ _=>False
noncomputable abbrev TS:=Ends->St->Hp->Prop
noncomputable def EP (X:Cx)(pins:List (Addr×Obj))(σ:St)(Q:VK)(u:Value)(s':Shared):Prop:=∃v H',Inv X pins σ H' s'∧RelV v u∧Q v H'
noncomputable def TP (X:Cx)(pins:List (Addr×Obj))(σ:St)(Q:Bool->Hp->Prop)(b:Bool)(s':Shared):Prop:=∃H',Inv X pins σ H' s'∧Q b H'
noncomputable def AP (X:Cx)(pins:List (Addr×Obj))(σ:St)(Q:List V->Hp->Prop)(us:List Value)(s':Shared):Prop:=∃vs H',Inv X pins σ H' s'∧Vals vs us∧Q vs H'
noncomputable def SP (X:Cx)(pins:List (Addr×Obj))(D:Ends)(f:Flow)(s':Shared):Prop:=
 match f with
 |.next=>∃σ' H',Inv X pins σ' H' s'∧D.nx σ' H'
 |.brk=>∃σ' H',Inv X pins σ' H' s'∧D.bk σ' H'
 |.cont=>∃σ' H',Inv X pins σ' H' s'∧D.ct σ' H'
 |.ret u=>∃v σ' H',Inv X pins σ' H' s'∧RelV v u∧D.rt v H'
noncomputable def PE (X:Cx)(e:Expr)(t:TE):Prop:=
 ∀(pins:List (Addr×Obj)) (s:Shared) (σ:St) (H:Hp) (Q:VK),Inv X pins σ H s->t σ H Q->wpAny (model X.prog X.w) X.A (eval e X.env) (EP X pins σ Q) X.xe s
noncomputable def PT (X:Cx)(e:Expr)(t:TT):Prop:=
 ∀(pins:List (Addr×Obj)) (s:Shared) (σ:St) (H:Hp) (Q:Bool->Hp->Prop),Inv X pins σ H s->t σ H Q->wpAny (model X.prog X.w) X.A (isTrue e X.env (eval e X.env)) (TP X pins σ Q) X.xe s
noncomputable def PW (X:Cx)(e:Expr)(t:TT):Prop:=
 ∀(whole:Sem Value) (pins:List (Addr×Obj)) (s:Shared) (σ:St) (H:Hp) (Q:Bool->Hp->Prop),Inv X pins σ H s->t σ H Q->wpAny (model X.prog X.w) X.A (isTrue e X.env whole) (TP X pins σ Q) X.xe s
theorem PW.pt {X:Cx}{e:Expr}{t:TT}(h:PW X e t):PT X e t:=h _
noncomputable def PA (X:Cx)(es:List Expr)(t:TA):Prop:=
 ∀(pos:Pos) (pins:List (Addr×Obj)) (s:Shared) (σ:St) (H:Hp) (Q:List V->Hp->Prop),Inv X pins σ H s->t σ H Q->wpAny (model X.prog X.w) X.A (spliced (backTo pos (starEach es X.env))) (AP X pins σ Q) X.xe s
noncomputable def PS (X:Cx)(st:Stmt)(t:TS):Prop:=
 ∀(pins:List (Addr×Obj)) (s:Shared) (σ:St) (H:Hp) (D:Ends),Inv X pins σ H s->t D σ H->wpAny (model X.prog X.w) X.A (exec st X.env) (SP X pins D) X.xe s
noncomputable def PSs (X:Cx)(st:List Stmt)(t:TS):Prop:=
 ∀(pins:List (Addr×Obj)) (s:Shared) (σ:St) (H:Hp) (D:Ends),Inv X pins σ H s->t D σ H->wpAny (model X.prog X.w) X.A (execs st X.env) (SP X pins D) X.xe s
theorem thn {α:Type}{t:Sem α}{Q Q':α->Shared->Prop}{M:Model}{A:Around}{E:Value->Shared->Prop}{s:Shared}(h:wpAny M A t Q E s)(hQ:∀a s,Q a s->Q' a s):wpAny M A t Q' E s:=wpAny_mono h hQ fun _ _ x=>x
section
variable {X:Cx}
theorem bin {a b:Expr}{ta tb:TE}(ha:PE X a ta)(hb:PE X b tb){pins:List (Addr×Obj)}{s:Shared}{σ:St}{H:Hp}{R:V->V->Hp->Prop}(I:Inv X pins σ H s)(h:ta σ H fun x H1=>tb σ H1 fun y H2=>R x y H2)
  {α:Type}{Q:α->Shared->Prop}{f:Value->Value->Sem α}
  (hf:∀v u s2 x y H2,Inv X pins σ H2 s2->RelV x v->RelV y u->R x y H2->wpAny (model X.prog X.w) X.A (f v u) Q X.xe s2) :
  wpAny (model X.prog X.w) X.A (eval a X.env) (fun v s₁=>wpAny (model X.prog X.w) X.A (eval b X.env) (fun u s₂=>wpAny (model X.prog X.w) X.A (f v u) Q X.xe s₂) X.xe s₁) X.xe s:=by
 refine thn (ha pins s σ H _ I h) fun v s1 W'=>?_;obtain⟨x,H1,I1,r1,q1⟩:=W';refine thn (hb pins s1 σ H1 _ I1 q1) fun u s2 W'=>?_;obtain⟨y,H2,I2,r2,q2⟩:=W';exact hf v u s2 x y H2 I2 r1 r2 q2
noncomputable def tVar (i:Nat):TE:=fun σ H Q=>∃v,σ[i]?=some (some v)∧Q v H
noncomputable def tC (v:V):TE:=fun _ H Q=>Q v H
theorem uP {i:Nat}{x:Str}{pos:Pos}(hN:X.N[i]?=some x)(hv:Vis X.env.scope x)(hd:(x == ("__debug__" : Str))=false:=by decide)(hcd:(x == ("__classdict__" : Str))=false:=by decide):PE X (.Name x pos) (tVar i):=by
 intro dl s σ H Q I h;obtain⟨v,e,h⟩:=h;obtain⟨m,hn,hl⟩:=I.loc;obtain⟨u,r,l⟩:=hl i x v hN e hv;have ld:EP X dl σ Q u s:=⟨v,H,I,r,h⟩;rcases l with⟨hk,hm⟩|⟨hk,c,hc,ad⟩
 ·exact wpAny_Name (wpAny_loadName_local I.ok.kind hk hn hm ld) hd
 ·rcases hk with hk|hk
  ·exact wpAny_Name (wpAny_loadName_cell I.ok.kind hk hc ad ld) hd
  ·exact wpAny_Name (wpAny_loadName_free I.ok.kind hk hc ad ld hcd) hd
theorem aA {i j pos}:PE X (.Constant (.int i) j pos) (tC (.int i)):=fun _ _ _ H _ I h=>wpAny_Constant_int ⟨.int i,H,I.tok _,⟨_,rfl⟩,h⟩
theorem bA {b j pos}:PE X (.Constant (.bool b) j pos) (tC (.bl b)):=fun _ _ _ H _ I h=>Constant_bool ⟨.bl b,H,I,rfl,h⟩
theorem aS {j pos}:PE X (.Constant .none j pos) (tC .non):=fun _ _ _ H _ I h=>Constant_none ⟨.non,H,I,rfl,h⟩
theorem aH {x j pos}:PE X (.Constant (.str x) j pos) (tC (.str x)):=fun _ _ _ H _ I h=>Calls.Constant_str ⟨.str x,H,I.tok _,⟨_,rfl⟩,h⟩
noncomputable def Gl (X:Cx)(x:Str):Prop:=X.env.kindOf x=some .globalImplicit
theorem ie {E:Value->Shared->Prop}{pins:List (Addr×Obj)}{s:Shared}{σ:St}{H:Hp}{x:Str}{u:Value}{pos:Pos}{Q:Value->Shared->Prop}(I:Inv X pins σ H s)(hg:Gl X x)(hm:X.mg x=some u)(h:Q u s)
  (hd:(x == ("__debug__" : Str))=false:=by decide):wpAny (model X.prog X.w) X.A (eval (.Name x pos) X.env) Q E s:=
 Calls.Name_function_global I.ok.kind hg (Calls.loadGlobal_global (by rw[I.ok.glob];exact I.mod.glob.keeps I.bk) hm h) hd
theorem bt {E:Value->Shared->Prop}{pins:List (Addr×Obj)}{s:Shared}{σ:St}{H:Hp}{x:Str}{u:Value}{pos:Pos}{Q:Value->Shared->Prop}(I:Inv X pins σ H s)(hg:Gl X x)(hm:X.mg x=none)(hv:bootBuiltins x=some u)(h:Q u s)
  (hn:x ≠ "__name__" := by decide) (hd:(x == ("__debug__" : Str))=false:=by decide):wpAny (model X.prog X.w) X.A (eval (.Name x pos) X.env) Q E s:=by
 obtain⟨mb,h1,h2⟩:=I.mod.blt;exact Calls.Name_function_global I.ok.kind hg (Calls.loadGlobal_builtin (by rw[I.ok.glob];exact I.mod.glob.keeps I.bk) hm (by rw[I.ok.blt];exact h1.keeps I.bk) ((h2 x hn).trans hv) h) hd
theorem aM {x:Str}{v:V}{u:Value}{pos:Pos}(hg:Gl X x)(hm:X.mg x=some u)(r:RelV v u)(hd:(x == ("__debug__" : Str))=false:=by decide):PE X (.Name x pos) (tC v):=
 fun _ _ _ H _ I h=>ie I hg hm ⟨v,H,I,r,h⟩ hd
theorem bG {x:Str}{v:V}{u:Value}{pos:Pos}(hg:Gl X x)(hm:X.mg x=none)(hv:bootBuiltins x=some u)(r:RelV v u)(hn:x ≠ "__name__" := by decide)(hd:(x == ("__debug__" : Str))=false:=by decide):PE X (.Name x pos) (tC v):=
 fun _ _ _ H _ I h=>bt I hg hm hv ⟨v,H,I,r,h⟩ hn hd
variable {a b:Expr}{ta tb:TE}{pos:Pos}
noncomputable def PC (X:Cx)(op:CmpOp)(a b:Expr)(t:TE):Prop:=
 ∀(pins:List (Addr×Obj)) (s:Shared) (σ:St) (H:Hp) (Q:VK),Inv X pins σ H s->t σ H Q ->
  wpAny (model X.prog X.w) X.A (eval a X.env) (fun v s₁=>wpAny (model X.prog X.w) X.A (eval b X.env) (fun u s₂=>wpAny (model X.prog X.w) X.A (compareOp op v u) (EP X pins σ Q) X.xe s₂) X.xe s₁) X.xe s
noncomputable def tB (t:TE):TT:=fun σ H Q=>t σ H fun x H1=>∃c,x=.bl c∧Q c H1
theorem Fv {op:CmpOp}{t:TE}(h:PC X op a b t)(h1:behindInMarks op b=false:=by first|exact nobehind _ (by decide) (by decide)|rfl):PT X (.Compare a [op] [b] pos) (tB t):=by intro pins s σ H Q I hw;refine wpAny_isTrue_Compare1 (thn (h pins s σ H _ I hw) fun v s1 h1=>thn h1 fun u s2 h2=>thn h2 fun c s3 W'=>?_) h1;obtain⟨x,H1,I1,r1,q1⟩:=W';obtain⟨d,rfl,q⟩:=q1;cases r1;exact wpAny_truthy_bool ⟨H1,I1,q⟩
theorem aR {e:Expr}{t:TE}(h:PE X e t)(he:∀whole,isTrue e X.env whole=(do let v <- whole;standAt e.pos;holding [v] (truthy v)):=by intro _;rfl):PT X e (tB t):=by intro pins s σ H Q I hw;refine isTrue_plain (thn (h pins s σ H _ I hw) fun v s1 W'=>?_) (he _);obtain⟨x,H1,I1,r1,q1⟩:=W';obtain⟨d,rfl,q⟩:=q1;cases r1;exact wpAny_truthy_bool ⟨H1,I1,q⟩
variable {tA tB':TT}{rest:List Expr}
noncomputable def tAnd (t u:TT):TT:=fun σ H Q=>t σ H fun c H1=>if c=true then u σ H1 Q else Q false H1
noncomputable def tOr (t u:TT):TT:=fun σ H Q=>t σ H fun c H1=>if c=true then Q true H1 else u σ H1 Q
noncomputable def tNot (t:TT):TT:=fun σ H Q=>t σ H fun c H1=>Q (!c) H1
theorem cj (ha:PT X a tA):PW X (.BoolOp .And [a] pos) tA:=by
 intro wh pins s σ H Q I h;refine isTrue_and (thn (ha pins s σ H Q I h) fun c s1 e=>?_);cases c with
 |true=>exact isTrue_and_nil e
 |false=>exact e
theorem ax (ha:PT X a tA):PW X (.BoolOp .Or [a] pos) tA:=by
 intro wh pins s σ H Q I h;refine isTrue_or (thn (ha pins s σ H Q I h) fun c s1 e=>?_);cases c with
 |false=>exact isTrue_or_nil e
 |true=>exact e
theorem cS (ha:PT X a tA)(hb:PW X (.BoolOp .And (b::rest) pos) tB'):PW X (.BoolOp .And (a::b::rest) pos) (tAnd tA tB'):=by
 intro wh pins s σ H Q I h;refine isTrue_and (thn (ha pins s σ H _ I h) fun c s1 W'=>?_);obtain⟨H1,I1,q1⟩:=W';cases c with
 |true=>exact hb wh pins s1 σ H1 Q I1 q1
 |false=>exact⟨H1,I1,q1⟩
theorem am (ha:PT X a tA)(hb:PW X (.BoolOp .Or (b::rest) pos) tB'):PW X (.BoolOp .Or (a::b::rest) pos) (tOr tA tB'):=by
 intro wh pins s σ H Q I h;refine isTrue_or (thn (ha pins s σ H _ I h) fun c s1 W'=>?_);obtain⟨H1,I1,q1⟩:=W';cases c with
 |true=>exact⟨H1,I1,q1⟩
 |false=>exact hb wh pins s1 σ H1 Q I1 q1
theorem ak (ha:PT X a tA):PT X (.UnaryOp .Not a pos) (tNot tA):=by intro pins s σ H Q I h;exact isTrue_not (ha pins s σ H (fun c H1=>Q (!c) H1) I h)
noncomputable def tAndV (ta tb:TE):TE:=fun σ H Q=>ta σ H fun x H1=>∃c,x=.bl c∧if c=true then tb σ H1 Q else Q (.bl false) H1
noncomputable def tOrV (ta tb:TE):TE:=fun σ H Q=>ta σ H fun x H1=>∃c,x=.bl c∧if c=true then Q (.bl true) H1 else tb σ H1 Q
noncomputable def tNotV (ta:TE):TE:=fun σ H Q=>ta σ H fun x H1=>∃c,x=.bl c∧Q (.bl (!c)) H1
theorem ao {op}{t:TE}(h:PE X a t):PE X (.BoolOp op [a] pos) t:=fun pins s σ H Q I hw=>BoolOp_one (h pins s σ H Q I hw)
theorem aj (ha:PE X a ta)(hb:PE X (.BoolOp .And (b::rest) pos) tb):PE X (.BoolOp .And (a::b::rest) pos) (tAndV ta tb):=by
 intro pins s σ H Q I h;refine BoolOp_and (thn (ha pins s σ H _ I h) fun v s1 W'=>?_);obtain⟨x,H1,I1,r1,q1⟩:=W';obtain⟨c,rfl,q1⟩:=q1;cases r1;refine wpAny_truthy_bool ?_;cases c with
 |true=>exact hb pins s1 σ H1 Q I1 q1
 |false=>exact⟨.bl false,H1,I1,rfl,q1⟩
theorem ck (ha:PE X a ta)(hb:PE X (.BoolOp .Or (b::rest) pos) tb):PE X (.BoolOp .Or (a::b::rest) pos) (tOrV ta tb):=by
 intro pins s σ H Q I h;refine BoolOp_or (thn (ha pins s σ H _ I h) fun v s1 W'=>?_);obtain⟨x,H1,I1,r1,q1⟩:=W';obtain⟨c,rfl,q1⟩:=q1;cases r1;refine wpAny_truthy_bool ?_;cases c with
 |false=>exact hb pins s1 σ H1 Q I1 q1
 |true=>exact⟨.bl true,H1,I1,rfl,q1⟩
theorem dZ (ha:PE X a ta):PE X (.UnaryOp .Not a pos) (tNotV ta):=by intro pins s σ H Q I h;refine UnaryOp_ (thn (ha pins s σ H _ I h) fun v s1 W'=>?_);obtain⟨x,H1,I1,r1,q1⟩:=W';obtain⟨c,rfl,q1⟩:=q1;cases r1;exact not_of (wpAny_truthy_bool ⟨.bl (!c),H1,I1,rfl,q1⟩)
noncomputable def tIf (t:TT)(ta tb:TE):TE:=fun σ H Q=>t σ H fun c H1=>if c=true then ta σ H1 Q else tb σ H1 Q
theorem b8 {c:Expr}(hc:PT X c tA)(ha:PE X a ta)(hb:PE X b tb):PE X (.IfExp c a b pos) (tIf tA ta tb):=by
 intro pins s σ H Q I h;refine wpAny_IfExp (thn (hc pins s σ H _ I h) fun d s1 W'=>?_);obtain⟨H1,I1,q1⟩:=W';cases d with
 |true=>exact ha pins s1 σ H1 Q I1 q1
 |false=>exact hb pins s1 σ H1 Q I1 q1
end
noncomputable def SqL (K:W.Frag)(H:Hp)(a:Addr)(xs:List V):Prop:=
 Rd H a (.lst xs) ∨
  ∃(o:Obj) (its:Array Value) (n:Nat),K.lookup a=some o∧o.cls=.type "list" ∧ o.dict=none∧o.data=.seq its n∧its.size≤sizeLine∧Vals xs its.toList
noncomputable def SqT (K:W.Frag)(H:Hp)(a:Addr)(xs:List V):Prop:=
 Rd H a (.tup xs) ∨
  ∃(o:Obj) (its:Array Value) (n:Nat),K.lookup a=some o∧o.cls=.type "tuple" ∧ o.data=.seq its n∧its.size≤sizeLine∧Vals xs its.toList
noncomputable def absV:Value->Option V
 |.none=>some .non
 |.bool b=>some (.bl b)
 |.int i _=>some (.int i)
 |.str x _=>some (.str x)
 |.bytes b _=>some (.byt b)
 |.float b _=>some (.flt b)
 |.ref a=>some (.ref a)
 |.type n=>some (.ty n)
 |_=>none
theorem RelV.abs {x:V}{u:Value}(r:RelV x u):absV u=some x:=by
 cases x with
 |non=>cases r;rfl
 |bl _=>cases r;rfl
 |int _=>obtain⟨t,rfl⟩:=r;rfl
 |str _=>obtain⟨t,rfl⟩:=r;rfl
 |byt _=>obtain⟨t,rfl⟩:=r;rfl
 |flt _=>obtain⟨t,rfl⟩:=r;rfl
 |ref _=>cases r;rfl
 |ty _=>cases r;rfl
theorem RelV.inj {x y:V}{u:Value}(r:RelV x u)(q:RelV y u):x=y:=Option.some.inj (r.abs.symm.trans q.abs)
theorem Vals.inj:∀{xs ys:List V}{us:List Value},Vals xs us->Vals ys us->xs=ys
 |_,_,_,.nil,.nil=>rfl
 |_,_,_,.cons r t,.cons r' t'=>by rw[r.inj r',Vals.inj t t']
section
variable {X:Cx}{pins:List (Addr×Obj)}{σ:St}{H:Hp}{s:Shared}{a:Addr}{xs ys:List V}
theorem SqL.of {K:W.Frag}(h:H a=some (.lst xs)):SqL K H a xs:=.inl (.inl h)
theorem SqT.of {K:W.Frag}(h:H a=some (.tup xs)):SqT K H a xs:=.inl (.inl h)
theorem Inv.list (I:Inv X pins σ H s)(h:SqL X.K H a xs):∃its:List Value,Vals xs its∧PlainL s.heap a its.toArray∧xs.length≤sizeLine:=by
 rcases h with h|⟨o,its,n,hk,hc,hd,hs,hz,r⟩
 ·obtain⟨z,its,n,r,e⟩:=h.ok I.hok;exact⟨its,r,⟨_,n,e,rfl,rfl,rfl⟩,z⟩
 ·refine⟨its.toList,r,⟨o,n,I.kIn a o hk,hc,hd,by simpa using hs⟩,?_⟩;have e:=r.length;simp only[Array.length_toList] at e;lia
theorem Inv.tuple (I:Inv X pins σ H s)(h:SqT X.K H a xs):∃its:List Value,Vals xs its∧IsTup s.heap a its.toArray∧xs.length≤sizeLine:=by
 rcases h with h|⟨o,its,n,hk,hc,hs,hz,r⟩
 ·obtain⟨z,its,r,p⟩:=h.ok I.hok;exact⟨its,r,p,z⟩
 ·refine⟨its.toList,r,⟨o,I.kIn a o hk,hc,n,by simpa using hs⟩,?_⟩;have e:=r.length;simp only[Array.length_toList] at e;lia
theorem Inv.list_inj (I:Inv X pins σ H s)(h:SqL X.K H a xs)(h':SqL X.K H a ys):xs=ys:=by
 obtain⟨its,r,⟨o,n,e,_,_,d⟩,_⟩:=I.list h;obtain⟨its',r',⟨o',n',e',_,_,d'⟩,_⟩:=I.list h';rw[e] at e';cases e';rw[d] at d';injection d' with d1 _;have:its=its':=by simpa using congrArg Array.toList d1
 subst this;exact r.inj r'
theorem Inv.tuple_inj (I:Inv X pins σ H s)(h:SqT X.K H a xs)(h':SqT X.K H a ys):xs=ys:=by
 obtain⟨its,r,⟨o,e,_,n,d⟩,_⟩:=I.tuple h;obtain⟨its',r',⟨o',e',_,n',d'⟩,_⟩:=I.tuple h';rw[e] at e';cases e';rw[d] at d';injection d' with d1 _;have:its=its':=by simpa using congrArg Array.toList d1
 subst this;exact r.inj r'
end
noncomputable abbrev Cx.wish (X:Cx)(E:Value->Shared->Prop):Cx:={ X with xe:=E}
noncomputable abbrev Cx.nox (X:Cx):Cx:=X.wish fun _ _=>False
theorem Cx.Ok.wish {X:Cx}(ok:X.Ok)(E:Value->Shared->Prop):(X.wish E).Ok:=
 ⟨ok.mod,ok.kind,ok.glob,ok.blt,ok.above,ok.inj,ok.has,ok.cab,ok.hd,ok.frames,ok.stk,ok.exf,ok.bs,ok.bsz,ok.noex,ok.exfs,ok.funs,ok.frf⟩
theorem Cx.Ok.unwish {X:Cx}{E:Value->Shared->Prop}(ok:(X.wish E).Ok):X.Ok:=
 ⟨ok.mod,ok.kind,ok.glob,ok.blt,ok.above,ok.inj,ok.has,ok.cab,ok.hd,ok.frames,ok.stk,ok.exf,ok.bs,ok.bsz,ok.noex,ok.exfs,ok.funs,ok.frf⟩
section
variable {X:Cx}{pins:List (Addr×Obj)}{σ:St}{H:Hp}{s:Shared}{E:Value->Shared->Prop}
theorem Inv.wish (I:Inv X pins σ H s)(E:Value->Shared->Prop):Inv (X.wish E) pins σ H s:=⟨I.ok.wish E,I.os,I.bare,I.base,I.loc,I.cell,I.free,I.freeC,I.pin,I.hok,I.len⟩
theorem Inv.unwish (I:Inv (X.wish E) pins σ H s):Inv X pins σ H s:=⟨I.ok.unwish,I.os,I.bare,I.base,I.loc,I.cell,I.free,I.freeC,I.pin,I.hok,I.len⟩
theorem SP.unwish {D:Ends}{f:Flow}{s':Shared}(h:SP (X.wish E) pins D f s'):SP X pins D f s':=by
 cases f with
 |next=>obtain⟨σ',H',I,q⟩:=h;exact⟨σ',H',I.unwish,q⟩
 |brk=>obtain⟨σ',H',I,q⟩:=h;exact⟨σ',H',I.unwish,q⟩
 |cont=>obtain⟨σ',H',I,q⟩:=h;exact⟨σ',H',I.unwish,q⟩
 |ret u=>obtain⟨v,σ',H',I,r,q⟩:=h;exact⟨v,σ',H',I.unwish,r,q⟩
theorem PSs.nox {st:List Stmt}{t:TS}(h:PSs X.nox st t):PSs X st t:=fun pins s σ H D I hw=>
 wpAny_mono (h pins s σ H D (I.wish _) hw) (fun _ _ q=>q.unwish) fun _ _ z=>False.elim z
end
section
variable {X:Cx}{st:Stmt}{rest:List Stmt}{t u:TS}{e:Expr}{te:TE}{pos:Pos}
noncomputable def tNext:TS:=fun D σ H=>D.nx σ H
noncomputable def tSeq (t u:TS):TS:=fun D σ H=>t {D with nx:=u D} σ H
theorem aK:PSs X [] tNext:=fun _ _ σ H _ I h=>wpAny_execs_nil ⟨σ,H,I,h⟩
theorem aC (h1:PS X st t)(h2:PSs X rest u):PSs X (st::rest) (tSeq t u):=by
 intro pins s σ H D I h;refine wpAny_execs_cons (thn (h1 pins s σ H {D with nx:=u D} I h) fun f s1 q=>?_);cases f with
 |next=>obtain⟨σ',H',I',q⟩:=q;exact h2 pins s1 σ' H' D I' q
 |ret v=>exact q
 |brk=>exact q
 |cont=>exact q
theorem aB (h1:PS X st t):PSs X [st] t:=by
 intro pins s σ H D I h;refine wpAny_execs_cons (thn (h1 pins s σ H D I h) fun f s1 q=>?_);cases f with
 |next=>exact wpAny_execs_nil q
 |ret v=>exact q
 |brk=>exact q
 |cont=>exact q
noncomputable def tBreak:TS:=fun D σ H=>D.bk σ H
theorem Inv.quiet {pins:List (Addr×Obj)}{σ:St}{H:Hp}{s:Shared}(I:Inv X pins σ H s):interactive X.env=false:=by simp[interactive,I.ok.kind]
noncomputable def tDrop (te:TE):TS:=fun D σ H=>te σ H fun _ H1=>D.nx σ H1
theorem bH (he:PE X e te)(hs:swapsWith e none pos.line X.env=pure false:=by rfl):PS X (.Expr e pos) (tDrop te):=by intro pins s σ H D I h;exact wpAny_Expr_any (thn (he pins s σ H _ I h) fun v s1 ⟨x,H1,I1,r1,q1⟩=>⟨σ,H1,I1,q1⟩) I.quiet hs
noncomputable def tRet (te:TE):TS:=fun D σ H=>te σ H D.rt
theorem aE (he:PE X e te):PS X (.Return (some e) pos) (tRet te):=by intro pins s σ H D I h;exact wpAny_Return_some (thn (he pins s σ H _ I h) fun v s1 ⟨x,H1,I1,r1,q1⟩=>⟨x,σ,H1,I1,r1,q1⟩)
noncomputable def tIfS (c:TT)(t u:TS):TS:=fun D σ H=>c σ H fun b H1=>if b=true then t D σ H1 else u D σ H1
theorem aJ {c:Expr}{a b:List Stmt}{tc:TT}(hc:PT X c tc)(ha:PSs X a t)(hb:PSs X b u):PS X (.If c a b pos) (tIfS tc t u):=by
 intro pins s σ H D I h;refine wpAny_If (thn (hc pins s σ H _ I h) fun d s1 W'=>?_);obtain⟨H1,I1,q1⟩:=W';cases d with
 |true=>exact ha pins s1 σ H1 D I1 q1
 |false=>exact hb pins s1 σ H1 D I1 q1
noncomputable def tNever:TS:=fun _ _ _=>False
theorem bN:PS X st tNever:=fun _ _ _ _ _ _ h=>h.elim
end
noncomputable abbrev TG:=V->St->Hp->(St->Hp->Prop)->Prop
noncomputable abbrev TGs:=List V->St->Hp->(St->Hp->Prop)->Prop
noncomputable def PG (X:Cx)(target:Expr)(t:TG):Prop:=
 ∀(pins:List (Addr×Obj)) (s:Shared) (σ:St) (H:Hp) (v:V) (u:Value) (Q:St->Hp->Prop),Inv X pins σ H s->RelV v u->t v σ H Q ->
  wpAny (model X.prog X.w) X.A (assign target X.env u) (fun _ s'=>∃σ' H',Inv X pins σ' H' s'∧Q σ' H') X.xe s
noncomputable def PGs (X:Cx)(ts:List Expr)(t:TGs):Prop:=
 ∀(pins:List (Addr×Obj)) (s:Shared) (σ:St) (H:Hp) (vs:List V) (us:List Value) (Q:St->Hp->Prop),Inv X pins σ H s->Vals vs us->t vs σ H Q ->
  wpAny (model X.prog X.w) X.A (assignInOrder ((assignEach ts X.env).map (·.2)) us) (fun _ s'=>∃σ' H',Inv X pins σ' H' s'∧Q σ' H') X.xe s
noncomputable abbrev TSet:=V->V->V->Hp->(Hp->Prop)->Prop
section
variable {X:Cx}{pos:Pos}
noncomputable def gName (i:Nat):TG:=fun v σ H Q=>Q (σ.set i (some v)) H
theorem fY {i:Nat}{x:Str}(hN:X.N.Nodup)(hi:X.N[i]?=some x)(hx:Loc X.env.scope x)(hf:X.fn x=true∨X.env.scope.names.lookup x=some .local:=by first|exact .inl rfl|exact .inr rfl|assumption):PG X (.Name x pos) (gName i):=by intro pins s σ H v u Q I r h;exact wpAny_assign_Name (la I hN hi hx r (fun s' I'=>⟨_,H,I',h⟩) hf)
noncomputable def gNil:TGs:=fun vs σ H Q=>vs=[]∧Q σ H
noncomputable def gCons (t:TG)(u:TGs):TGs:=fun vs σ H Q=>∃v r,vs=v::r∧t v σ H fun σ' H'=>u r σ' H' Q
theorem cm:PGs X [] gNil:=by intro pins s σ H vs us Q I r h;obtain⟨e,h⟩:=h;subst e;cases r;exact assignInOrder_nil ⟨σ,H,I,h⟩
theorem bS {e:Expr}{es:List Expr}{t:TG}{u:TGs}(h1:PG X e t)(h2:PGs X es u)
  (hs:(assignEach (e::es) X.env).map (·.2)=assign e X.env::(assignEach es X.env).map (·.2):=by rfl):PGs X (e::es) (gCons t u):=by
 intro pins s σ H vs us Q I r h;obtain⟨v,vr,e1,h⟩:=h;subst e1;cases r with
 |cons r rr=>rw[hs];refine assignInOrder_cons (thn (h1 pins s σ H _ _ _ I r h) fun _ s1 W'=>?_);obtain⟨σ1,H1,I1,q1⟩:=W';exact h2 pins s1 σ1 H1 _ _ Q I1 rr q1
noncomputable def gTup (K:W.Frag)(n:Nat)(t:TGs):TG:=fun v σ H Q=>∃a xs,v=.ref a∧SqT K H a xs∧xs.length=n∧t xs σ H Q
theorem lc {es:List Expr}{k:Nat}{t:TGs}{n:Nat}(hc:X.calm=true)(h:PGs X es t)
  (hn:(assignEach es X.env).length=n:=by rfl) (hst:(assignEach es X.env).findIdx? (·.1)=none:=by rfl):PG X (.Tuple es k pos) (gTup X.K n t):=by
 intro ad s σ H v u Q I r hw;obtain⟨a,xs,e1,hq,hl,hw⟩:=hw;subst e1;cases r;obtain⟨dl,rv,ht,hz⟩:=I.tuple hq;refine assign_Tuple_tuple (I.ok.hd hc) ht (by simp[hn,<- hl,rv.length]) hst fun h' hx=>?_;have I1:Inv X ad σ H {s with heap:=h' }:=I.kept (t':=s.toks) fun b o e=>hx b o (Nat.ne_of_lt (Heap.lt_size e)) e;exact h ad _ σ H xs _ Q I1 (by simpa using rv) hw
noncomputable def gSub (to ti:TE)(t:TSet):TG:=fun v σ H Q=>to σ H fun o H1=>ti σ H1 fun i H2=>t o i v H2 fun H3=>Q σ H3
noncomputable def tAsg (te:TE)(g:TG):TS:=fun D σ H=>te σ H fun x H1=>g x σ H1 D.nx
theorem uQ {tg e:Expr}{te:TE}{g:TG}(he:PE X e te)(hg:PG X tg g)(hs:swapsWithSole [tg] e pos.line X.env=pure false:=by rfl)(hw:swappedStores [tg] e X.env=pure none:=by rfl)
  (h1:(assignEach [tg] X.env).map (·.2)=[assign tg X.env]:=by rfl):PS X (.Assign [tg] e pos) (tAsg te g):=by
 intro pins s σ H D I h;refine wpAny_Assign_stores (thn (he pins s σ H _ I h) fun v s1 W'=>?_) hs hw;obtain⟨x,H1,I1,r1,q1⟩:=W';rw[h1];exact thn (hg pins s1 σ H1 x v _ I1 r1 q1) fun _ s2 q=>q
theorem uR {i:Nat}{x:Str}{e:Expr}{te:TE}{pos':Pos}(hN:X.N.Nodup)(hi:X.N[i]?=some x)(hx:Loc X.env.scope x)(he:PE X e te)(hs:swapsWith e (some (.Name x pos')) pos.line X.env=pure false:=by rfl)(hf:X.fn x=true∨X.env.scope.names.lookup x=some .local:=by first|exact .inl rfl|exact .inr rfl|assumption) :
  PS X (.Assign [.Name x pos'] e pos) (tAsg te (gName i)):=by
 intro pins s σ H D I h;refine wpAny_Assign_Name (thn (he pins s σ H _ I h) fun v s1 W'=>?_) hs;obtain⟨y,H1,I1,r1,q1⟩:=W';exact la I1 hN hi hx r1 (fun s2 I2=>⟨_,H1,I2,q1⟩) hf
noncomputable def tPar (i j:Nat)(ta:TA):TS:=fun D σ H=>ta σ H fun vs H1=>∃v w,vs=[v,w]∧D.nx ((σ.set i (some v)).set j (some w)) H1
end
section
variable {X:Cx}{pos:Pos}
noncomputable def tWhile (c:TT)(tb:TS):TS:=fun D σ H=>∃W:Nat->St->Hp->Prop,(∃m,W m σ H)∧∀m σ H,W m σ H ->
 c σ H fun b H1=>if b=true then ∃N:St->Hp->Prop,(∀σ' H',N σ' H'->∃m',m' < m∧W m' σ' H')∧tb {D with nx:=N,ct:=N,bk:=D.nx} σ H1 else D.nx σ H1
theorem da {c:Expr}{body:List Stmt}{tc:TT}{tb:TS}(hp:PassesOwn (model X.prog X.w) X.A X.env X.xe)(hc:PT X c tc)(hb:PSs X body tb):PS X (.While c body [] pos) (tWhile tc tb):=by
 intro ad s σ H D I h;obtain⟨W,⟨m0,w0⟩,dl⟩:=h;refine wpAny_While (codeAny_whileLoop (fun n s'=>∃σ' H',Inv X ad σ' H' s'∧W n σ' H') ?_ m0 ⟨σ,H,I,w0⟩);rintro n s1 ⟨σ1,H1,I1,w1⟩;refine wpAny_passesOwn hp (thn (hc ad s1 σ1 H1 _ I1 (dl n σ1 H1 w1)) fun b s2 W'=>?_);obtain⟨H2,I2,q2⟩:=W';cases b with
 |true=>
  obtain⟨N,hN,q2⟩:=q2;rw[if_pos rfl];refine wpAny_passesOwn hp (thn (hb ad s2 σ1 H2 _ I2 q2) fun f s3 q3=>?_);cases f with
  |next=>obtain⟨σ3,H3,I3,n3⟩:=q3;obtain⟨m',hm,w3⟩:=hN σ3 H3 n3;exact⟨m',hm,σ3,H3,I3,w3⟩
  |cont=>obtain⟨σ3,H3,I3,n3⟩:=q3;obtain⟨m',hm,w3⟩:=hN σ3 H3 n3;exact⟨m',hm,σ3,H3,I3,w3⟩
  |brk=>exact q3
  |ret v=>exact q3
 |false=>rw[if_neg Bool.false_ne_true];exact wpAny_execs_nil ⟨σ1,H2,I2,q2⟩
end
structure It where
 go:Nat->Hp->Prop
 yld:Nat->Hp->V->Hp->Prop
 stop:Nat->Hp->Prop
noncomputable def FpOk (X:Cx)(pins:List (Addr×Obj))(H:Hp)(b:Addr):Prop:=
 H b=none∧b≠X.env.locals∧b∉X.fs∧(b∈X.ex∨X.s₀.heap.objs.size≤b)∧(∀x c,X.env.cells.lookup x=some c->c≠b)∧∀p∈X.pn++pins,p.1≠b
theorem Inv.fpOk {X:Cx}{pins:List (Addr×Obj)}{σ:St}{H H':Hp}{s:Shared}{b:Addr}(I:Inv X pins σ H s)(hb:s.heap.objs.size≤b)(hn:H' b=none):FpOk X pins H' b:=by
 refine⟨hn,Nat.ne_of_gt (Nat.lt_of_lt_of_le I.lt hb),I.nofs hb,.inr (Nat.le_trans I.sz hb),fun x c e z=>?_,fun p hp z=>?_⟩
 ·obtain⟨v,q⟩:=I.cell x c e;exact absurd (Nat.lt_of_lt_of_le q.lt (by rw[z];exact hb)) (Nat.lt_irrefl _)
 ·exact absurd (Nat.lt_of_lt_of_le (Heap.lt_size (I.pin p hp).1) (by rw[z];exact hb)) (Nat.lt_irrefl _)
structure Turn (P:Program)(w:World)(K:W.Frag)(tg:Expr)(J:It)(fp:List Addr)(it:Addr)(tn:Nat->Heap->Prop):Prop where
 mem:it∈fp
 obj:∀i h,tn i h->∀b∈fp,∃o,h.get? b=some o∧∀v,o.data≠.cell v
 keep:∀i h h',tn i h->(∀b∈fp,∀o,h.get? b=some o->h'.get? b=some o)->tn i h'
 item:∀(X:Cx),X.prog=P->X.w=w->X.K=K->X.calm=true->∀(i:Nat) (pins:List (Addr×Obj)) (s:Shared) (σ:St) (H:Hp) (E:Value->Shared->Prop),Inv X pins σ H s->(∀b∈fp,FpOk X pins H b)->tn i s.heap->J.go i H ->
  wpAny (model P w) X.A (pyNext (.ref it)) (fun r s1=>∃u,r=some u ∧
   wpAny (model P w) X.A (letOwnedTupleGo tg (.ref it) u) (fun _ s2=>∃x H',Inv X pins σ H' s2∧RelV x u∧J.yld i H x H'∧tn (i+1) s2.heap∧∀b∈fp,H' b=none) E s1) E s
 done:∀(X:Cx),X.prog=P->X.w=w->X.K=K->X.calm=true->∀(i:Nat) (pins:List (Addr×Obj)) (s:Shared) (σ:St) (H:Hp) (E:Value->Shared->Prop),Inv X pins σ H s->(∀b∈fp,FpOk X pins H b)->tn i s.heap->J.stop i H ->
  wpAny (model P w) X.A (pyNext (.ref it)) (fun r s1=>r=none∧Inv X pins σ H s1) E s
 self:∀(A:Around) (i:Nat) (s:Shared) (Q:Value->Shared->Prop) (E:Value->Shared->Prop),tn i s.heap->Q (.ref it) s->wpAny (model P w) A (pyIter (.ref it)) Q E s
noncomputable abbrev TI:=St->Hp->(It->Hp->Prop)->Prop
noncomputable def PIE (X:Cx)(pins:List (Addr×Obj))(σ:St)(tg:Expr)(R:It->Hp->Prop)(itv:Value)(s2:Shared):Prop:=
 ∃(it:Addr) (fp:List Addr) (tn:Nat->Heap->Prop) (J:It) (H':Hp),itv=.ref it∧Inv X pins σ H' s2∧Turn X.prog X.w X.K tg J fp it tn∧tn 0 s2.heap∧(∀b∈fp,FpOk X pins H' b)∧R J H'
noncomputable def PI (X:Cx)(tg iter:Expr)(wi:TI):Prop:=
 ∀(pins:List (Addr×Obj)) (s:Shared) (σ:St) (H:Hp) (R:It->Hp->Prop),Inv X pins σ H s->wi σ H R ->
  wpAny (model X.prog X.w) X.A (eval iter X.env) (fun v s1=>wpAny (model X.prog X.w) X.A (pyIter v) (PIE X pins σ tg R) X.xe s1) X.xe s
theorem db {M:Model}{A:Around}{E:Value->Shared->Prop}{s:Shared}{tg:Expr}{it:Addr}{u:Value}{o:Obj}{n:String}{vs:Array Value}{Q:Unit->Shared->Prop}(ho:s.heap.get? it=some o)(hc:o.cls=.type n)(hd:o.data=.fields vs)
  (hn:["enumerate","zip","dict_itemiterator","dict_reverseitemiterator","odict_iterator","itertools.zip_longest","itertools.pairwise"].contains n=false) (hQ:Q () s):wpAny M A (letOwnedTupleGo tg (.ref it) u) Q E s:=by
 unfold letOwnedTupleGo;cases tg <;> first
  |exact wpAny_pure hQ
  | (cases u <;> first
    |exact wpAny_pure hQ
    | (refine wpAny_bind (wpAny_load ho ?_)
       rw[hc,hd];show wpAny M A (if (["enumerate","zip","dict_itemiterator","dict_reverseitemiterator","odict_iterator","itertools.zip_longest","itertools.pairwise"].contains n && vs[0]? == some (rawInt _))=true then _ else _) Q E s;rw[if_neg (by intro h;rw[hn,Bool.false_and] at h;cases h)];exact wpAny_pure hQ))
noncomputable def Itl (K:W.Frag)(a:Addr):It:=
 ⟨fun i H=>∃xs x,SqL K H a xs∧xs[i]?=some x,fun i H x H'=>H'=H∧∀xs,SqL K H a xs->xs[i]?=some x,fun i H=>∃xs,SqL K H a xs∧xs.length≤i⟩
noncomputable def Itt (K:W.Frag)(a:Addr):It:=
 ⟨fun i H=>∃xs x,SqT K H a xs∧xs[i]?=some x,fun i H x H'=>H'=H∧∀xs,SqT K H a xs->xs[i]?=some x,fun i H=>∃xs,SqT K H a xs∧xs.length≤i⟩
noncomputable def Itr (lo:Int)(n:Nat):It:=⟨fun i _=>i < n,fun i H x H'=>H'=H∧x=.int (lo+i),fun i _=>n≤i⟩
theorem uS {P:Program}{w:World}{K:W.Frag}{tg:Expr}(a it:Addr):Turn P w K tg (Itl K a) [it] it (fun i h=>h.IsListIter it a i) where
 mem:=by simp
 obj:=fun i h st b hb=>by
  have e:b=it:=by simpa using hb
  subst e;obtain⟨o,e,c,d⟩:=st;exact⟨o,e,fun v z=>by rw[d] at z;cases z⟩
 keep:=fun i h h' st k=>st.at fun o e=>k it (by simp) o e
 item:=by intro X hP hw hK hc i ad s σ H E I hf st hg;subst hP hw hK;obtain⟨xs,x,hq,hx⟩:=hg;obtain⟨ld,rv,p,hz⟩:=I.list hq;obtain⟨u,hu,ru⟩:=rv.get hx;obtain⟨f0,f1,f2,f3,f4,f5⟩:=hf it (by simp);refine wpAny_pyNext_list_item st p.isList (x:=u) (by simpa using hu) fun h' dl sb=>?_;have I1:Inv X ad σ H {s with heap:=h' }:=I.turned (t':=s.toks) (fun b o hb e=>(sb.2 b hb).trans e) f0 f1 f3 f4 f5;obtain⟨o,e,c,d⟩:=id dl;exact⟨u,rfl,db (s:={ s with heap:=h' }) e c d (by decide) ⟨x,H,I1,ru,⟨rfl,fun ys hy=>by rw[I.list_inj hy hq];exact hx⟩,dl,fun b hb=>(hf b hb).1⟩⟩
 done:=by intro X hP hw hK hc i ad s σ H E I hf st hg;subst hP hw hK;obtain⟨xs,hq,hx⟩:=hg;obtain⟨ld,rv,p,hz⟩:=I.list hq;obtain⟨f0,f1,f2,f3,f4,f5⟩:=hf it (by simp);have hl:=rv.length;exact wpAny_pyNext_list_end (I.ok.hd hc) st p.isList (by simp;lia) fun h' eb=>⟨rfl,I.turned (t':=s.toks) (fun b o hb e=>eb b o hb e) f0 f1 f3 f4 f5⟩
 self:=fun _ _ _ _ _ st h=>wpAny_pyIter_listiter st h
theorem uT {P:Program}{w:World}{K:W.Frag}{tg:Expr}(a it:Addr):Turn P w K tg (Itt K a) [it] it (fun i h=>h.IsTupleIter it a i) where
 mem:=by simp
 obj:=fun i h st b hb=>by
  have e:b=it:=by simpa using hb
  subst e;obtain⟨o,e,c,d⟩:=st;exact⟨o,e,fun v z=>by rw[d] at z;cases z⟩
 keep:=fun i h h' st k=>st.at fun o e=>k it (by simp) o e
 item:=by intro X hP hw hK hc i ad s σ H E I hf st hg;subst hP hw hK;obtain⟨xs,x,hq,hx⟩:=hg;obtain⟨dl,rv,p,hz⟩:=I.tuple hq;obtain⟨u,hu,ru⟩:=rv.get hx;obtain⟨f0,f1,f2,f3,f4,f5⟩:=hf it (by simp);refine wpAny_pyNext_tuple_item st (show s.heap.IsTuple a dl.toArray from p) (x:=u) (by simpa using hu) fun h' ld sb=>?_;have I1:Inv X ad σ H {s with heap:=h' }:=I.turned (t':=s.toks) (fun b o hb e=>(sb.2 b hb).trans e) f0 f1 f3 f4 f5;obtain⟨o,e,c,d⟩:=id ld;exact⟨u,rfl,db (s:={ s with heap:=h' }) e c d (by decide) ⟨x,H,I1,ru,⟨rfl,fun ys hy=>by rw[I.tuple_inj hy hq];exact hx⟩,ld,fun b hb=>(hf b hb).1⟩⟩
 done:=by intro X hP hw hK hc i ad s σ H E I hf st hg;subst hP hw hK;obtain⟨xs,hq,hx⟩:=hg;obtain⟨dl,rv,p,hz⟩:=I.tuple hq;obtain⟨f0,f1,f2,f3,f4,f5⟩:=hf it (by simp);have hl:=rv.length;exact wpAny_pyNext_tuple_end (I.ok.hd hc) st (show s.heap.IsTuple a dl.toArray from p) (by simp;lia) fun h' eb=>⟨rfl,I.turned (t':=s.toks) (fun b o hb e=>eb b o hb e) f0 f1 f3 f4 f5⟩
 self:=fun _ _ _ _ _ st h=>wpAny_pyIter_tupleiter st h
theorem uU {P:Program}{w:World}{K:W.Frag}{tg:Expr}(it:Addr)(lo:Int)(n:Nat):Turn P w K tg (Itr lo n) [it] it (fun i h=>IsRangeIter h it (lo+(i:Nat) * 1) ((n:Int) - (i:Nat)) 1) where
 mem:=by simp
 obj:=fun i h st b hb=>by
  have e:b=it:=by simpa using hb
  subst e;exact⟨_,st,fun v z=>by have z':Data.fields _=Data.cell v:=z;cases z'⟩
 keep:=fun i h h' st k=>k it (by simp) _ st
 item:=by intro X hP hw hK hc i ad s σ H E I hf st hg;subst hP hw hK;obtain⟨f0,f1,f2,f3,f4,f5⟩:=hf it (by simp);have W:=Walks.range (prog:=X.prog) (w:=X.w) (I.ok.hd hc) it lo 1 n;refine W.item i s _ _ hg st fun v h' tk hv dl kk=>?_;obtain⟨t,rfl⟩:=hv;have I1:Inv X ad σ H {s with heap:=h',toks:=tk}:=I.turned (fun b o hb e=>kk b o (by simpa using hb) e) f0 f1 f3 f4 f5;refine⟨_,rfl,db (s:={ s with heap:=h',toks:=tk}) (n := "range_iterator") dl rfl rfl (by decide) ⟨.int (lo+i),H,I1,⟨t,?_⟩,⟨rfl,rfl⟩,dl,fun b hb=>(hf b hb).1⟩⟩;rw[Int.mul_one]
 done:=by intro X hP hw hK hc i ad s σ H E I hf st hg;subst hP hw hK;obtain⟨f0,f1,f2,f3,f4,f5⟩:=hf it (by simp);exact wpAny_pyNext_range_end (I.ok.hd hc) st (by have:n≤i:=hg;lia) fun h' eb=>⟨rfl,I.turned (t':=s.toks) (fun b o hb e=>eb b o hb e) f0 f1 f3 f4 f5⟩
 self:=fun _ _ _ _ _ st h=>wpAny_pyIter_rangeiter st h
section
variable {X:Cx}{tg:Expr}
noncomputable def iList (K:W.Frag)(tl:TE):TI:=fun σ H R=>tl σ H fun x H1=>∃a,x=.ref a∧(∃xs,SqL K H1 a xs)∧R (Itl K a) H1
noncomputable def iTup (K:W.Frag)(tl:TE):TI:=fun σ H R=>tl σ H fun x H1=>∃a,x=.ref a∧(∃xs,SqT K H1 a xs)∧R (Itt K a) H1
theorem uV {l:Expr}{tl:TE}(hl:PE X l tl):PI X tg l (iList X.K tl):=by
 intro ad s σ H R I h;refine thn (hl ad s σ H _ I h) fun v s1 W'=>?_;obtain⟨x,H1,I1,r1,q1⟩:=W';obtain⟨a,e,⟨xs,hq⟩,q⟩:=q1;subst e;cases r1;obtain⟨dl,rv,p,hz⟩:=I1.list hq;refine wpAny_pyIter_list p.isList ?_;refine⟨s1.heap.objs.size,[s1.heap.objs.size],_,_,H1,rfl,I1.kept (t':=s1.toks) fun b o e=>Heap.get?_push_of_some _ e,uS a _,⟨_,Heap.get?_push_size _ rfl,rfl,rfl⟩,fun b hb=>?_,q⟩;have e:b=s1.heap.objs.size:=by simpa using hb
 subst e;exact I1.fpOk (Nat.le_refl _) (I1.hok.fresh (Nat.le_refl _))
theorem uW {l:Expr}{tl:TE}(hl:PE X l tl):PI X tg l (iTup X.K tl):=by
 intro ad s σ H R I h;refine thn (hl ad s σ H _ I h) fun v s1 W'=>?_;obtain⟨x,H1,I1,r1,q1⟩:=W';obtain⟨a,e,⟨xs,hq⟩,q⟩:=q1;subst e;cases r1;obtain⟨dl,rv,p,hz⟩:=I1.tuple hq;refine wpAny_pyIter_tuple (show s1.heap.IsTuple a dl.toArray from p) ?_;refine⟨s1.heap.objs.size,[s1.heap.objs.size],_,_,H1,rfl,I1.kept (t':=s1.toks) fun b o e=>Heap.get?_push_of_some _ e,uT a _,⟨_,Heap.get?_push_size _ rfl,rfl,rfl⟩,fun b hb=>?_,q⟩;have e:b=s1.heap.objs.size:=by simpa using hb
 subst e;exact I1.fpOk (Nat.le_refl _) (I1.hok.fresh (Nat.le_refl _))
theorem uX {pins:List (Addr×Obj)}{σ:St}{H:Hp}{s:Shared}{R:It->Hp->Prop}{E:Value->Shared->Prop}{lo hi:Int}{t u v:Tok}{tk:Nat}(I:Inv X pins σ H s)(h1:-(2 ^ 62)≤lo)(h2:lo < 2 ^ 62)(h3:-(2 ^ 62)≤hi)(h4:hi < 2 ^ 62)
  (q:R (Itr lo (hi - lo).toNat) H):wpAny (model X.prog X.w) X.A (pyIter (.ref s.heap.objs.size)) (PIE X pins σ tg R) E {s with heap:=s.heap.push {cls:=.type "range",data:=.fields #[.int lo t,.int hi u,.int 1 v]},toks:=tk}:=by
 refine wpAny_pyIter_range (IsRange.new ..) (small_one h1 h2 h3 h4) ?_;have I1:Inv X pins σ H {s with heap:=s.heap.push {cls:=.type "range",data:=.fields #[.int lo t,.int hi u,.int 1 v]},toks:=tk}:=I.kept fun b o e=>Heap.get?_push_of_some _ e;refine⟨(s.heap.push {cls:=.type "range",data:=.fields #[.int lo t,.int hi u,.int 1 v]}).objs.size,[(s.heap.push {cls:=.type "range",data:=.fields #[.int lo t,.int hi u,.int 1 v]}).objs.size],_,_,H,rfl,
  I1.kept (t':=tk) fun b o e=>Heap.get?_push_of_some _ e,uU _ lo (hi - lo).toNat,?_,fun b hb=>?_,q⟩
 ·have e1:lo+((0:Nat):Int) * 1=lo:=by simp
  have e2:(((hi - lo).toNat:Nat):Int) - ((0:Nat):Int)=Builtin.Range.rangeSize lo hi 1:=by rw[rangeSize_one];split <;> lia
  show IsRangeIter _ _ (lo+((0:Nat):Int) * 1) ((((hi - lo).toNat:Nat):Int) - ((0:Nat):Int)) 1;rw[e1,e2];exact Heap.get?_push_size _ rfl
 ·have e:b=(s.heap.push {cls:=.type "range",data:=.fields #[.int lo t,.int hi u,.int 1 v]}).objs.size:=by simpa using hb
  subst e;exact I1.fpOk (Nat.le_refl _) (I1.hok.fresh (Nat.le_refl _))
noncomputable def iRng1 (ta:TA):TI:=fun σ H R=>ta σ H fun vs H1=>∃j:Int,vs=[.int j]∧-(2 ^ 62)≤j∧j < 2 ^ 62∧R (Itr 0 j.toNat) H1
theorem bu {a:Expr}{ta:TA}{p pos:Pos}(hg:Gl X "range")(hm:X.mg "range"=none)(ha:PA X [a] ta)(hs:starEach [a] X.env=[(false,eval a X.env)]:=by rfl):PI X tg (.Call (.Name "range" p) [a] [] pos) (iRng1 ta):=by
 intro ad s σ H R I h;refine Call_ (bt I hg hm boot_range (PyProof.Rows.callWith_type1 (thn (ha pos ad s σ H _ I h) fun us s1 W'=>?_) hs rfl));obtain⟨vs,H1,I1,r1,q1⟩:=W';obtain⟨j,e,q1,q2,q⟩:=q1;subst e;cases r1 with
 |cons r rr=>cases rr;obtain⟨t,rfl⟩:=r;exact call_range_1 (uX I1 (by lia) (by lia) q1 q2 (by simpa using q))
noncomputable def tFor (wi:TI)(g:TG)(tb:TS):TS:=fun D σ H=>wi σ H fun J H1=>∃W:Nat->Nat->St->Hp->Prop,(∃m,W 0 m σ H1)∧∀i m σ H,W i m σ H ->
 (J.stop i H∧D.nx σ H)∨(J.go i H∧∃N:St->Hp->Prop,(∀σ' H',N σ' H'->∃m',m' < m∧W (i+1) m' σ' H')∧∀x H',J.yld i H x H'->g x σ H' fun σ2 H2=>tb {D with nx:=N,ct:=N,bk:=D.nx} σ2 H2)
noncomputable def pinsAt (fp:List Addr)(h:Heap):List (Addr×Obj):=fp.filterMap fun b=>(h.get? b).map fun o=>(b,o)
theorem cn {fp:List Addr}{h:Heap}{b:Addr}{o:Obj}(hb:b∈fp)(e:h.get? b=some o):(b,o)∈pinsAt fp h:=List.mem_filterMap.mpr ⟨b,hb,by rw[e];rfl⟩
theorem uY {fp:List Addr}{h:Heap}{p:Addr×Obj}(hp:p∈pinsAt fp h):p.1∈fp∧h.get? p.1=some p.2:=by
 obtain⟨b,hb,e⟩:=List.mem_filterMap.mp hp;cases q:h.get? b with
 |none=>rw[q] at e;cases e
 |some o=>rw[q] at e;have e':(b,o)=p:=Option.some.inj e;subst e';exact⟨hb,q⟩
theorem Inv.pinned {pins:List (Addr×Obj)}{σ:St}{H:Hp}{s:Shared}{fp:List Addr}(I:Inv X pins σ H s)(hf:∀b∈fp,FpOk X pins H b)(ho:∀b∈fp,∃o,s.heap.get? b=some o∧∀v,o.data≠.cell v):Inv X (pins++pinsAt fp s.heap) σ H s:=
 I.pins_of fun p hp=>(mem_append.mp hp).elim (fun z=>I.pin p (mem_append_right _ z)) fun z=>by obtain⟨hb,e⟩:=uY z;obtain⟨f0,f1,f2,_⟩:=hf p.1 hb;obtain⟨o,e',d⟩:=ho p.1 hb;rw[e] at e';cases e';exact⟨e,f0,f1,f2,d⟩
theorem Inv.unpinned {pins pl:List (Addr×Obj)}{σ:St}{H:Hp}{s:Shared}(I:Inv X (pins++pl) σ H s):Inv X pins σ H s:=I.pins_of fun p hp=>I.pin p (mem_append_right _ (mem_append_left _ hp))
theorem bO {iter:Expr}{body:List Stmt}{wi:TI}{g:TG}{tb:TS}{pos:Pos}(hp:PassesOwn (model X.prog X.w) X.A X.env X.xe)(hc:X.calm=true)(hi:PI X tg iter wi)(hg:PG X tg g)(hb:PSs X body tb)
  (hs:∀x,foldedSetIterable iter X.env x=pure x:=by intro _;rfl):PS X (.For tg iter body [] pos) (tFor wi g tb):=by
 intro ad s σ H D I h;refine wpAny_For (thn (hi ad s σ H _ I h) fun v s1 h1=>thn h1 fun Fy s2 h2=>?_) hs;obtain⟨it,fp,tn,J,H2,e,I2,T,Fr,f2,W,⟨m0,w0⟩,mt⟩:=h2;subst e;have ld:∀{H':Hp},(∀b∈fp,H' b=none)->∀b∈fp,FpOk X ad H' b:=fun hn b hb=>⟨hn b hb,(f2 b hb).2⟩;refine codeAny_forLoop_any (fun n s'=>∃i σ' H',Inv X ad σ' H' s'∧tn i s'.heap∧(∀b∈fp,H' b=none)∧W i n σ' H') ?_ m0 ⟨0,σ,H2,I2,Fr,fun b hb=>(f2 b hb).1,w0⟩;rintro n s3 ⟨i,σ3,H3,I3,Cl,Fn,w3⟩;rcases mt i n σ3 H3 w3 with⟨stop,qn⟩|⟨go,N,hN,step⟩
 ·refine wpAny_passesOwn hp (thn (T.done X rfl rfl rfl hc i ad s3 σ3 H3 X.xe I3 (ld Fn) Cl stop) fun r s4 W'=>?_);obtain⟨hr,I4⟩:=W';subst hr;exact wpAny_execs_nil ⟨σ3,H3,I4,qn⟩
 ·refine wpAny_passesOwn hp (thn (T.item X rfl rfl rfl hc i ad s3 σ3 H3 X.xe I3 (ld Fn) Cl go) fun r s4 W'=>?_);obtain⟨u,hr,h4⟩:=W';subst hr;refine wpAny_passesOwn hp (thn h4 fun _ s5 W'=>?_);obtain⟨x,H5,I5,r5,y5,BT,Fx⟩:=W';have I5':=I5.pinned (ld Fx) (T.obj _ _ BT);refine wpAny_passesOwn hp (thn (hg _ s5 σ3 H5 x u _ I5' r5 (step x H5 y5)) fun _ s6 W'=>?_);obtain⟨σ6,H6,I6,q6⟩:=W';refine wpAny_passesOwn hp (thn (hb _ s6 σ6 H6 _ I6 q6) fun f s7 q7=>?_);have dl:∀{σ7:St}{H7:Hp},Inv X (ad++pinsAt fp s5.heap) σ7 H7 s7->N σ7 H7->∃m,m < n∧∃i σ' H',Inv X ad σ' H' s7∧tn i s7.heap∧(∀b∈fp,H' b=none)∧W i m σ' H':=fun {σ7 H7} I7 n7=>by
   obtain⟨m',hm,w7⟩:=hN σ7 H7 n7;refine⟨m',hm,i+1,σ7,H7,I7.unpinned,T.keep _ _ _ BT fun b hb o e=>(I7.pin (b,o) (mem_append_right _ (mem_append_right _ (cn hb e)))).1,fun b hb=>?_,w7⟩;obtain⟨o,e,d⟩:=T.obj _ _ BT b hb;exact (I7.pin (b,o) (mem_append_right _ (mem_append_right _ (cn hb e)))).2.1
  cases f with
  |next=>obtain⟨σ7,H7,I7,n7⟩:=q7;exact dl I7 n7
  |cont=>obtain⟨σ7,H7,I7,n7⟩:=q7;exact dl I7 n7
  |brk=>obtain⟨σ7,H7,I7,q7⟩:=q7;exact⟨σ7,H7,I7.unpinned,q7⟩
  |ret v=>obtain⟨x7,σ7,H7,I7,r7,q7⟩:=q7;exact⟨x7,σ7,H7,I7.unpinned,r7,q7⟩
end
theorem uZ {K:W.Frag}{a:Addr}{xs:List V}{g:TG}{tb:TS}{D:Ends}{σ:St}{H:Hp}(Pv:Nat->St->Hp->Prop)(h0:Pv 0 σ H)(hl:∀i σ H,i≤xs.length->Pv i σ H->SqL K H a xs)
  (hs:∀i x σ H,xs[i]?=some x->Pv i σ H->g x σ H fun σ2 H2=>tb {D with nx:=Pv (i+1),ct:=Pv (i+1),bk:=D.nx} σ2 H2) (hd:∀σ H,Pv xs.length σ H->D.nx σ H) :
  ∃W:Nat->Nat->St->Hp->Prop,(∃m,W 0 m σ H)∧∀i m σ H,W i m σ H ->
   ((Itl K a).stop i H∧D.nx σ H)∨((Itl K a).go i H∧∃N:St->Hp->Prop,(∀σ' H',N σ' H'->∃m',m' < m∧W (i+1) m' σ' H')∧∀x H',(Itl K a).yld i H x H'->g x σ H' fun σ2 H2=>tb {D with nx:=N,ct:=N,bk:=D.nx} σ2 H2):=by
 refine⟨fun i m σ H=>m=xs.length - i∧i≤xs.length∧Pv i σ H,⟨xs.length,by simp,Nat.zero_le _,h0⟩,?_⟩;rintro i m σ H ⟨rfl,hi,p⟩;have q:=hl i σ H hi p;by_cases ad:i < xs.length
 ·refine .inr ⟨⟨xs,xs[i],q,by simp[ad]⟩,Pv (i+1),fun σ' H' p'=>⟨xs.length - (i+1),by lia,rfl,ad,p'⟩,fun x H' y=>?_⟩;obtain⟨e,y⟩:=y;subst e;exact hs i x σ _ (y xs q) p
 ·have e:i=xs.length:=by lia
  subst e;exact .inl ⟨⟨xs,q,Nat.le_refl _⟩,hd σ H p⟩
theorem ua {K:W.Frag}{a:Addr}{xs:List V}{g:TG}{tb:TS}{D:Ends}{σ:St}{H:Hp}(Pv:Nat->St->Hp->Prop)(h0:Pv 0 σ H)(hl:∀i σ H,i≤xs.length->Pv i σ H->SqT K H a xs)
  (hs:∀i x σ H,xs[i]?=some x->Pv i σ H->g x σ H fun σ2 H2=>tb {D with nx:=Pv (i+1),ct:=Pv (i+1),bk:=D.nx} σ2 H2) (hd:∀σ H,Pv xs.length σ H->D.nx σ H) :
  ∃W:Nat->Nat->St->Hp->Prop,(∃m,W 0 m σ H)∧∀i m σ H,W i m σ H ->
   ((Itt K a).stop i H∧D.nx σ H)∨((Itt K a).go i H∧∃N:St->Hp->Prop,(∀σ' H',N σ' H'->∃m',m' < m∧W (i+1) m' σ' H')∧∀x H',(Itt K a).yld i H x H'->g x σ H' fun σ2 H2=>tb {D with nx:=N,ct:=N,bk:=D.nx} σ2 H2):=by
 refine⟨fun i m σ H=>m=xs.length - i∧i≤xs.length∧Pv i σ H,⟨xs.length,by simp,Nat.zero_le _,h0⟩,?_⟩;rintro i m σ H ⟨rfl,hi,p⟩;have q:=hl i σ H hi p;by_cases ad:i < xs.length
 ·refine .inr ⟨⟨xs,xs[i],q,by simp[ad]⟩,Pv (i+1),fun σ' H' p'=>⟨xs.length - (i+1),by lia,rfl,ad,p'⟩,fun x H' y=>?_⟩;obtain⟨e,y⟩:=y;subst e;exact hs i x σ _ (y xs q) p
 ·have e:i=xs.length:=by lia
  subst e;exact .inl ⟨⟨xs,q,Nat.le_refl _⟩,hd σ H p⟩
theorem ub {lo:Int}{n:Nat}{g:TG}{tb:TS}{D:Ends}{σ:St}{H:Hp}(Pv:Nat->St->Hp->Prop)(h0:Pv 0 σ H)
  (hs:∀i σ H,i < n->Pv i σ H->g (.int (lo+i)) σ H fun σ2 H2=>tb {D with nx:=Pv (i+1),ct:=Pv (i+1),bk:=D.nx} σ2 H2) (hd:∀σ H,Pv n σ H->D.nx σ H) :
  ∃W:Nat->Nat->St->Hp->Prop,(∃m,W 0 m σ H)∧∀i m σ H,W i m σ H ->
   ((Itr lo n).stop i H∧D.nx σ H)∨((Itr lo n).go i H∧∃N:St->Hp->Prop,(∀σ' H',N σ' H'->∃m',m' < m∧W (i+1) m' σ' H')∧∀x H',(Itr lo n).yld i H x H'->g x σ H' fun σ2 H2=>tb {D with nx:=N,ct:=N,bk:=D.nx} σ2 H2):=by
 refine⟨fun i m σ H=>m=n - i∧i≤n∧Pv i σ H,⟨n,by simp,Nat.zero_le _,h0⟩,?_⟩;rintro i m σ H ⟨rfl,hi,p⟩;by_cases ad:i < n
 ·refine .inr ⟨ad,Pv (i+1),fun σ' H' p'=>⟨n - (i+1),by lia,rfl,ad,p'⟩,fun x H' y=>?_⟩;obtain⟨e,y⟩:=y;subst e y;exact hs i σ _ ad p
 ·have e:i=n:=by lia
  subst e;exact .inl ⟨Nat.le_refl _,hd σ H p⟩
noncomputable abbrev R2:=V->V->Hp->VK->Prop
noncomputable def OpR (X:Cx)(f:Value->Value->Sem Value)(r:R2):Prop:=
 ∀(pins:List (Addr×Obj)) (s:Shared) (σ:St) (H:Hp) (x y:V) (v u:Value) (Q:VK),Inv X pins σ H s->RelV x v->RelV y u->r x y H Q ->
  wpAny (model X.prog X.w) X.A (f v u) (EP X pins σ Q) X.xe s
noncomputable def UnR (X:Cx)(f:Value->Sem Value)(r:V->Hp->VK->Prop):Prop:=
 ∀(pins:List (Addr×Obj)) (s:Shared) (σ:St) (H:Hp) (x:V) (v:Value) (Q:VK),Inv X pins σ H s->RelV x v->r x H Q ->
  wpAny (model X.prog X.w) X.A (f v) (EP X pins σ Q) X.xe s
noncomputable def CallR (X:Cx)(f:Value)(r:List V->Hp->VK->Prop):Prop:=
 ∀(pins:List (Addr×Obj)) (s:Shared) (σ:St) (H:Hp) (xs:List V) (us:List Value) (Q:VK),Inv X pins σ H s->Vals xs us->r xs H Q ->
  wpAny (model X.prog X.w) X.A (call f us) (EP X pins σ Q) X.xe s
noncomputable def tOp (r:R2)(ta tb:TE):TE:=fun σ H Q=>ta σ H fun x H1=>tb σ H1 fun y H2=>r x y H2 Q
noncomputable def tUn (r:V->Hp->VK->Prop)(ta:TE):TE:=fun σ H Q=>ta σ H fun x H1=>r x H1 Q
noncomputable def rI (C:Int->Int->Prop)(g:Int->Int->V):R2:=fun x y H Q=>∃i j,x=.int i∧y=.int j∧C i j∧Q (g i j) H
noncomputable def rI0 (g:Int->Int->V):R2:=fun x y H Q=>∃i j,x=.int i∧y=.int j∧Q (g i j) H
noncomputable def rU (g:Int->V):V->Hp->VK->Prop:=fun x H Q=>∃i,x=.int i∧Q (g i) H
section
variable {X:Cx}{a b c:Expr}{ta tb tc:TE}{pos:Pos}
theorem binT (ha:PE X a ta)(hb:PE X b tb){pins:List (Addr×Obj)}{s:Shared}{σ:St}{H:Hp}{R:V->V->Hp->Prop}(I:Inv X pins σ H s)
  (h:ta σ H fun x H1=>tb σ H1 fun y H2=>R x y H2) {Q:Value->Shared->Prop}{f:Value->Value->Sem Value}
  (hf:∀v u s2 x y H2,Inv X pins σ H2 s2->RelV x v->RelV y u->R x y H2->wpAny (model X.prog X.w) X.A (f v u) Q X.xe s2) :
  wpAny (model X.prog X.w) X.A (eval a X.env) (fun v s₁=>wpAny (model X.prog X.w) X.A (eval b X.env) (fun u s₂=>wpAny (model X.prog X.w) X.A (f v u) Q X.xe s₂) X.xe s₁) X.xe s:=by
 refine thn (ha pins s σ H _ I h) fun v s1 W'=>?_;obtain⟨x,H1,I1,r1,q1⟩:=W';refine thn (hb pins s1 σ H1 _ I1 q1) fun u s2 W'=>?_;obtain⟨y,H2,I2,r2,q2⟩:=W';exact hf v u s2 x y H2 I2 r1 r2 q2
theorem aD {op:Operator}{r:R2}(ho:OpR X (binaryOp op) r)(ha:PE X a ta)(hb:PE X b tb):PE X (.BinOp a op b pos) (tOp r ta tb):=by intro pins s σ H Q I h;exact wpAny_BinOp (binT ha hb I h fun v u s2 x y H2 I2 rx ry q=>ho pins s2 σ H2 x y v u Q I2 rx ry q)
theorem cT {op:UnaryOp}{r:V->Hp->VK->Prop}(ho:UnR X (unaryOp op) r)(ha:PE X a ta):PE X (.UnaryOp op a pos) (tUn r ta):=by intro pins s σ H Q I h;exact UnaryOp_ (thn (ha pins s σ H _ I h) fun v s1 ⟨x,H1,I1,r1,q1⟩=>ho pins s1 σ H1 x v Q I1 r1 q1)
theorem opI {f:Value->Value->Sem Value}{C:Int->Int->Prop}{g:Int->Int->Int}
  (rule:∀(i j:Int) (t u:Tok) (s:Shared) (Q:Value->Shared->Prop) (E:Value->Shared->Prop),C i j->Q (.int (g i j) s.toks) {s with toks:=s.toks+1}->wpAny (model X.prog X.w) X.A (f (.int i t) (.int j u)) Q E s) :
  OpR X f (rI C fun i j=>.int (g i j)):=by
 intro pins s σ H x y v u Q I rx ry h;obtain⟨i,j,rfl,rfl,hc,q⟩:=h;obtain⟨t,rfl⟩:=rx;obtain⟨t',rfl⟩:=ry;exact rule i j t t' s _ _ hc ⟨.int (g i j),H,I.tok _,⟨_,rfl⟩,q⟩
theorem opI0 {f:Value->Value->Sem Value}{g:Int->Int->Int}
  (rule:∀(i j:Int) (t u:Tok) (s:Shared) (Q:Value->Shared->Prop) (E:Value->Shared->Prop),Q (.int (g i j) s.toks) {s with toks:=s.toks+1}->wpAny (model X.prog X.w) X.A (f (.int i t) (.int j u)) Q E s) :
  OpR X f (rI0 fun i j=>.int (g i j)):=by
 intro pins s σ H x y v u Q I rx ry h;obtain⟨i,j,rfl,rfl,q⟩:=h;obtain⟨t,rfl⟩:=rx;obtain⟨t',rfl⟩:=ry;exact rule i j t t' s _ _ ⟨.int (g i j),H,I.tok _,⟨_,rfl⟩,q⟩
theorem opB0 {f:Value->Value->Sem Value}{g:Int->Int->Bool}
  (rule:∀(i j:Int) (t u:Tok) (s:Shared) (Q:Value->Shared->Prop) (E:Value->Shared->Prop),Q (.bool (g i j)) s->wpAny (model X.prog X.w) X.A (f (.int i t) (.int j u)) Q E s) :
  OpR X f (rI0 fun i j=>.bl (g i j)):=by
 intro pins s σ H x y v u Q I rx ry h;obtain⟨i,j,rfl,rfl,q⟩:=h;obtain⟨t,rfl⟩:=rx;obtain⟨t',rfl⟩:=ry;exact rule i j t t' s _ _ ⟨.bl (g i j),H,I,rfl,q⟩
noncomputable def CDiv (i j:Int):Prop:=0 < j∧j < 1073741824
noncomputable def CPow (i j:Int):Prop:=0≤j∧j≤1000000∧i.natAbs < 2 ^ 64
noncomputable def CMul (i j:Int):Prop:=(-(2 ^ 64) < i∧i < 2 ^ 64)∨(-(2 ^ 64) < j∧j < 2 ^ 64)
theorem CMul.ok {i j:Int}(h:CMul i j):IntMulOk i j:=by
 rcases h with⟨h1,h2⟩|⟨h1,h2⟩
 ·exact .of_left (intBits_le_64 h1 h2)
 ·exact .of_right (intBits_le_64 h1 h2)
theorem uc:OpR X (binaryOp .Add) (rI0 fun i j=>.int (i+j)):=opI0 fun _ _ _ _ _ _ _ q=>add_int q
theorem fZ:OpR X (binaryOp .Sub) (rI0 fun i j=>.int (i - j)):=opI0 fun _ _ _ _ _ _ _ q=>sub_int q
theorem ud:OpR X (binaryOp .Mult) (rI CMul fun i j=>.int (i * j)):=opI fun _ _ _ _ _ _ _ hc q=>mul_int q hc.ok
theorem ai:OpR X (binaryOp .FloorDiv) (rI CDiv fun i j=>.int (i / j)):=opI fun i j _ _ _ _ _ hc q=>by have h1:(0:Int) < j:=hc.1;have h2:j < 1073741824:=hc.2;exact floordiv_int (by lia) (by rw[Int.fdiv_eq_ediv_of_nonneg i (by lia)];exact q) (.inl (PyProof.noPylong_small (by lia)))
theorem aT:OpR X (binaryOp .Mod) (rI (fun _ j=>0 < j) fun i j=>.int (i % j)):=opI fun i j _ _ _ _ _ hc q=>by have h1:(0:Int) < j:=hc;exact mod_int' (by lia) (by rw[Int.fmod_eq_emod_of_nonneg i (by lia)];exact q)
theorem ue:OpR X (binaryOp .Pow) (rI CPow fun i j=>.int (i ^ j.toNat)):=opI fun _ _ _ _ _ _ _ hc q=>pow_int_small hc.1 hc.2.1 hc.2.2 q
theorem unI {f:Value->Sem Value}{g:Int->Int}
  (rule:∀(i:Int) (t:Tok) (s:Shared) (Q:Value->Shared->Prop) (E:Value->Shared->Prop),Q (.int (g i) s.toks) {s with toks:=s.toks+1}->wpAny (model X.prog X.w) X.A (f (.int i t)) Q E s) :
  UnR X f (rU fun i=>.int (g i)):=by
 intro pins s σ H x v Q I rx h;obtain⟨i,rfl,q⟩:=h;obtain⟨t,rfl⟩:=rx;exact rule i t s _ _ ⟨.int (g i),H,I.tok _,⟨_,rfl⟩,q⟩
theorem cU:UnR X (unaryOp .USub) (rU fun i=>.int (-i)):=unI fun _ _ _ _ _ q=>neg_int q
end
noncomputable def scal:V->V->Bool
 |.non,.non=>true|.non,.int _=>true|.int _,.non=>true|.non,.bl _=>true|.bl _,.non=>true|.non,.str _=>true|.str _,.non=>true
 |.int _,.int _=>true|.bl _,.bl _=>true|.str _,.str _=>true|.byt _,.byt _=>true
 |.int _,.str _=>true|.str _,.int _=>true|.bl _,.str _=>true|.str _,.bl _=>true
 |_,_=>false
noncomputable def rEq:R2:=fun x y H Q=>scal x y=true∧Q (.bl (decide (x=y))) H
noncomputable def rNe:R2:=fun x y H Q=>scal x y=true∧Q (.bl (!decide (x=y))) H
theorem lf {i j:Int}:decide (V.int i=V.int j)=(i == j):=by rw[Bool.eq_iff_iff];simp
theorem lh {i j:Bool}:decide (V.bl i=V.bl j)=(i == j):=by rw[Bool.eq_iff_iff];simp
theorem li {i j:Str}:decide (V.str i=V.str j)=(i == j):=by rw[Bool.eq_iff_iff];simp
theorem lj {i j:Array UInt8}:decide (V.byt i=V.byt j)=(i.toList == j.toList):=by rw[Bool.eq_iff_iff];cases i;cases j;simp
section
variable {X:Cx}{a b c:Expr}{ta tb tc:TE}{pos:Pos}
theorem ag {pins:List (Addr×Obj)}{σ:St}{H:Hp}{s:Shared}{Q:VK}{k k':Bool}(I:Inv X pins σ H s)(q:Q (.bl k) H)(e:k=k'):EP X pins σ Q (.bool k') s:=by subst e;exact⟨.bl k,H,I,rfl,q⟩
theorem aO:OpR X (compareOp .Eq) rEq:=by
 intro ad s σ H x y v u Q I rx ry h;obtain⟨hs,q⟩:=h;cases x with
 |non=>
  cases rx;cases y with
  |non=>cases ry;exact PySem.EqNone.eq_none_none (ag I q (by simp))
  |bl j=>cases ry;exact PySem.EqNone.eq_none_bool (ag I q (by simp))
  |int j=>obtain⟨t',rfl⟩:=ry;exact PySem.EqNone.eq_none_int (ag I q (by simp))
  |str j=>obtain⟨t',rfl⟩:=ry;exact PySem.EqNone.eq_none_str (ag I q (by simp))
  |_=>exact absurd (show false=true from hs) Bool.false_ne_true
 |bl i=>
  cases rx;cases y with
  |non=>cases ry;exact PySem.EqNone.eq_bool_none (ag I q (by simp))
  |bl j=>cases ry;exact eq_bool (ag I q lh)
  |str j=>obtain⟨t',rfl⟩:=ry;exact PySem.EqMixed.eq_bool_str (ag I q (by simp))
  |_=>exact absurd (show false=true from hs) Bool.false_ne_true
 |int i=>
  obtain⟨t,rfl⟩:=rx;cases y with
  |non=>cases ry;exact PySem.EqNone.eq_int_none (ag I q (by simp))
  |int j=>obtain⟨t',rfl⟩:=ry;exact eq_int (ag I q lf)
  |str j=>obtain⟨t',rfl⟩:=ry;exact PySem.EqMixed.eq_int_str (ag I q (by simp))
  |_=>exact absurd (show false=true from hs) Bool.false_ne_true
 |str i=>
  obtain⟨t,rfl⟩:=rx;cases y with
  |non=>cases ry;exact PySem.EqNone.eq_str_none (ag I q (by simp))
  |bl j=>cases ry;exact PySem.EqMixed.eq_str_bool (ag I q (by simp))
  |int j=>obtain⟨t',rfl⟩:=ry;exact PySem.EqMixed.eq_str_int (ag I q (by simp))
  |str j=>obtain⟨t',rfl⟩:=ry;exact eq_str (ag I q li)
  |_=>exact absurd (show false=true from hs) Bool.false_ne_true
 |byt i=>
  obtain⟨t,rfl⟩:=rx;cases y with
  |byt j=>obtain⟨t',rfl⟩:=ry;exact PySem.W.eq_bytes (ag I q lj)
  |_=>exact absurd (show false=true from hs) Bool.false_ne_true
 |_=>cases y <;> exact absurd (show false=true from hs) Bool.false_ne_true
theorem bB:OpR X (compareOp .NotEq) rNe:=by
 intro ad s σ H x y v u Q I rx ry h;obtain⟨hs,q⟩:=h;cases x with
 |non=>
  cases rx;cases y with
  |non=>cases ry;exact PySem.EqNone.ne_none_none (ag I q (by simp))
  |bl j=>cases ry;exact PySem.EqNone.ne_none_bool (ag I q (by simp))
  |int j=>obtain⟨t',rfl⟩:=ry;exact PySem.EqNone.ne_none_int (ag I q (by simp))
  |str j=>obtain⟨t',rfl⟩:=ry;exact PySem.EqNone.ne_none_str (ag I q (by simp))
  |_=>exact absurd (show false=true from hs) Bool.false_ne_true
 |bl i=>
  cases rx;cases y with
  |non=>cases ry;exact PySem.EqNone.ne_bool_none (ag I q (by simp))
  |bl j=>cases ry;exact ne_bool (ag I q (congrArg not lh))
  |str j=>obtain⟨t',rfl⟩:=ry;exact PySem.EqMixed.ne_bool_str (ag I q (by simp))
  |_=>exact absurd (show false=true from hs) Bool.false_ne_true
 |int i=>
  obtain⟨t,rfl⟩:=rx;cases y with
  |non=>cases ry;exact PySem.EqNone.ne_int_none (ag I q (by simp))
  |int j=>obtain⟨t',rfl⟩:=ry;exact ne_int (ag I q (congrArg not lf))
  |str j=>obtain⟨t',rfl⟩:=ry;exact PySem.EqMixed.ne_int_str (ag I q (by simp))
  |_=>exact absurd (show false=true from hs) Bool.false_ne_true
 |str i=>
  obtain⟨t,rfl⟩:=rx;cases y with
  |non=>cases ry;exact PySem.EqNone.ne_str_none (ag I q (by simp))
  |bl j=>cases ry;exact PySem.EqMixed.ne_str_bool (ag I q (by simp))
  |int j=>obtain⟨t',rfl⟩:=ry;exact PySem.EqMixed.ne_str_int (ag I q (by simp))
  |str j=>obtain⟨t',rfl⟩:=ry;exact ne_str (ag I q (congrArg not li))
  |_=>exact absurd (show false=true from hs) Bool.false_ne_true
 |byt i=>
  obtain⟨t,rfl⟩:=rx;cases y with
  |byt j=>obtain⟨t',rfl⟩:=ry;exact PySem.W.ne_bytes (ag I q (congrArg not lj))
  |_=>exact absurd (show false=true from hs) Bool.false_ne_true
 |_=>cases y <;> exact absurd (show false=true from hs) Bool.false_ne_true
theorem de:OpR X (compareOp .Lt) (rI0 fun i j=>.bl (decide (i < j))):=opB0 fun _ _ _ _ _ _ _ q=>lt_int q
theorem cF:OpR X (compareOp .LtE) (rI0 fun i j=>.bl (decide (i≤j))):=opB0 fun _ _ _ _ _ _ _ q=>le_int q
theorem bT:OpR X (compareOp .Gt) (rI0 fun i j=>.bl (decide (j < i))):=opB0 fun _ _ _ _ _ _ _ q=>gt_int q
theorem uf:OpR X (compareOp .GtE) (rI0 fun i j=>.bl (decide (j≤i))):=opB0 fun _ _ _ _ _ _ _ q=>ge_int q
theorem ug:OpR X (compareOp .In) (fun x y H Q=>∃i j,x=.str i∧y=.str j∧Q (.bl (!(Builtin.Str.occurrences j i 0 j.length 1).isEmpty)) H):=by intro pins s σ H x y v u Q I rx ry h;obtain⟨i,j,rfl,rfl,q⟩:=h;obtain⟨t,rfl⟩:=rx;obtain⟨t',rfl⟩:=ry;exact in_str (ag I q rfl)
theorem uh:OpR X (compareOp .Is) (fun x y H Q=>y=.non∧Q (.bl (decide (x=.non))) H):=by
 intro pins s σ H x y v u Q I rx ry h;obtain⟨rfl,q⟩:=h;cases ry;refine is_none_gen (ag I q ?_);cases x <;> first
  | (cases rx;rfl)
  | (obtain⟨t,rfl⟩:=rx;rfl)
theorem uk:OpR X (compareOp .IsNot) (fun x y H Q=>y=.non∧Q (.bl (!decide (x=.non))) H):=by
 intro pins s σ H x y v u Q I rx ry h;obtain⟨rfl,q⟩:=h;cases ry;refine isnot_none_gen (ag I q ?_);cases x <;> first
  | (cases rx;rfl)
  | (obtain⟨t,rfl⟩:=rx;rfl)
theorem nomark (b:Expr){op:CmpOp}(h:op≠.In:=by decide)(h2:op≠.NotIn:=by decide):behindInMarks op b=false:=by
 have e1:(op == CmpOp.In)=false:=by cases op <;> first|rfl|exact absurd rfl h
 have e2:(op == CmpOp.NotIn)=false:=by cases op <;> first|rfl|exact absurd rfl h2
 cases b <;> simp[behindInMarks,e1,e2]
theorem fb {op:CmpOp}{r:R2}(ho:OpR X (compareOp op) r)(ha:PE X a ta)(hb:PE X b tb)(hm:behindInMarks op b=false):PE X (.Compare a [op] [b] pos) (tOp r ta tb):=by intro pins s σ H Q I h;exact wpAny_Compare1 (binT ha hb I h fun v u s2 x y H2 I2 rx ry q=>ho pins s2 σ H2 x y v u Q I2 rx ry q) hm
noncomputable def tTest (t:TE):TT:=fun σ H Q=>t σ H fun x H'=>∃k,x=.bl k∧Q k H'
theorem bv {op:CmpOp}{r:R2}(ho:OpR X (compareOp op) r)(ha:PE X a ta)(hb:PE X b tb)(hm:behindInMarks op b=false):PT X (.Compare a [op] [b] pos) (tTest (tOp r ta tb)):=by
 intro ad s σ H Q I h;refine wpAny_isTrue_Compare1 (thn (ha ad s σ H _ I h) fun v s1 ⟨x,H1,I1,r1,q1⟩=>thn (hb ad s1 σ H1 _ I1 q1) fun u s2 ⟨y,H2,I2,r2,q2⟩=>
  thn (ho ad s2 σ H2 x y v u _ I2 r1 r2 q2) fun c s3 ⟨z,H3,I3,r3,k,e,q3⟩=>?_) hm
 subst e;cases r3;exact wpAny_truthy_bool ⟨H3,I3,q3⟩
noncomputable def tChain (r r':R2)(ta tb tc:TE):TE:=fun σ H Q=>ta σ H fun x H1=>tb σ H1 fun y H2=>r x y H2 fun z H3=>∃k,z=.bl k ∧
 (if k=true then tc σ H3 fun w' H4=>r' y w' H4 Q else Q (.bl false) H3)
theorem ig {op op':CmpOp}{r r':R2}(ho:OpR X (compareOp op) r)(ho':OpR X (compareOp op') r')(ha:PE X a ta)(hb:PE X b tb)(hc:PE X c tc)
  (hm:lastMarks [op,op'] [b,c]=false:=by with_unfolding_all rfl):PE X (.Compare a [op,op'] [b,c] pos) (tChain r r' ta tb tc):=by
 intro ad s σ H Q I h;refine Compare_chain (thn (ha ad s σ H _ I h) fun v s1 ⟨x,H1,I1,r1,q1⟩=>chain_link (thn (hb ad s1 σ H1 _ I1 q1) fun u s2 ⟨y,H2,I2,r2,q2⟩=>
  thn (ho ad s2 σ H2 x y v u _ I2 r1 r2 q2) fun d s3 ⟨z,H3,I3,r3,k,e,q3⟩=>?_)) hm
 subst e;cases r3;refine wpAny_truthy_bool ?_;cases k with
 |false=>exact ite_ff ⟨.bl false,H3,I3,rfl,q3⟩
 |true=>exact ite_tt (chain_last (thn (hc ad s3 σ H3 _ I3 q3) fun w' s4 ⟨z',H4,I4,r4,q4⟩=>ho' ad s4 σ H4 y z' u w' Q I4 r2 r4 q4))
theorem ul {op op':CmpOp}{r r':R2}(ho:OpR X (compareOp op) r)(ho':OpR X (compareOp op') r')(ha:PE X a ta)(hb:PE X b tb)(hc:PE X c tc)
  (hm:lastMarks [op,op'] [b,c]=false:=by with_unfolding_all rfl):PT X (.Compare a [op,op'] [b,c] pos) (tTest (tChain r r' ta tb tc)):=by
 intro ad s σ H Q I h;refine isTrue_chain (thn (ha ad s σ H _ I h) fun v s1 ⟨x,H1,I1,r1,q1⟩=>test_link (thn (hb ad s1 σ H1 _ I1 q1) fun u s2 ⟨y,H2,I2,r2,q2⟩=>
  thn (ho ad s2 σ H2 x y v u _ I2 r1 r2 q2) fun d s3 ⟨z,H3,I3,r3,k,e,q3⟩=>?_)) hm
 subst e;cases r3;refine wpAny_truthy_bool ?_;cases k with
 |false=>obtain⟨k',e',q'⟩:=q3;cases e';exact ite_ff ⟨H3,I3,q'⟩
 |true=>refine ite_tt (test_last (thn (hc ad s3 σ H3 _ I3 q3) fun w' s4 ⟨z',H4,I4,r4,q4⟩=>thn (ho' ad s4 σ H4 y z' u w' _ I4 r2 r4 q4) fun d' s5 W'=>?_));obtain⟨z2,H5,I5,r5,k2,e2,q5⟩:=W';subst e2;cases r5;exact wpAny_truthy_bool ⟨H5,I5,q5⟩
theorem line63:(sizeLine:Nat) < 2 ^ 63:=by rw[sizeLine_eq];decide
theorem um:OpR X (binaryOp .Add) (fun x y H Q=>∃i j,x=.str i∧y=.str j∧i.length+j.length≤sizeLine∧Q (.str (i++j)) H):=by intro pins s σ H x y v u Q I rx ry h;obtain⟨i,j,rfl,rfl,hz,q⟩:=h;obtain⟨t,rfl⟩:=rx;obtain⟨t',rfl⟩:=ry;exact add_str (fun t' tk=>⟨.str (i++j),H,I.tok _,⟨_,rfl⟩,q⟩) hz
theorem vals1 {x:V}{us:List Value}(r:Vals [x] us):∃u,us=[u]∧RelV x u:=by
 cases r with
 |cons r1 r2=>cases r2;exact⟨_,rfl,r1⟩
theorem vals2 {x y:V}{us:List Value}(r:Vals [x,y] us):∃u w',us=[u,w']∧RelV x u∧RelV y w':=by
 cases r with
 |cons r1 r2=>
  cases r2 with
  |cons r3 r4=>cases r4;exact⟨_,_,rfl,r1,r3⟩
theorem ll:CallR X (.type "int") (fun xs H Q=>(∃i,xs=[.int i]∧Q (.int i) H)∨∃k,xs=[.bl k]∧Q (.int (if k then 1 else 0)) H):=by
 intro pins s σ H xs us Q I r h;rcases h with⟨i,rfl,q⟩|⟨k,rfl,q⟩
 ·obtain⟨u,rfl,t,rfl⟩:=vals1 r;exact call_int_int ⟨.int i,H,I,⟨_,rfl⟩,q⟩
 ·obtain⟨u,rfl,r1⟩:=vals1 r;cases r1;exact call_int_bool ⟨.int (if k then 1 else 0),H,I.tok _,⟨_,rfl⟩,q⟩
theorem lm:CallR X (.type "str") (fun xs H Q=>∃i,xs=[.int i]∧i.natAbs.log2 < 1920∧Q (.str (toString i)) H):=by intro pins s σ H xs us Q I r h;obtain⟨i,rfl,hz,q⟩:=h;obtain⟨u,rfl,t,rfl⟩:=vals1 r;exact PySem.P.str_of_int hz ⟨.str _,H,I.tok _,⟨_,rfl⟩,q⟩
theorem ur:CallR X (.builtin "ord") (fun xs H Q=>∃x,xs=[.str x]∧x.length=1∧Q (.int (x.cps.getD 0 0:Nat)) H):=by intro pins s σ H xs us Q I r h;obtain⟨x,rfl,hz,q⟩:=h;obtain⟨u,rfl,t,rfl⟩:=vals1 r;exact ord_of_one hz ⟨.int _,H,I.tok _,⟨_,rfl⟩,q⟩
end
structure ObjM (h:Heap)(x dx C:Addr)(mA:Str->Option Value):Prop where
 obj:h.get? x=some (PySem.W.instObj C dx)
 ns:h.Ns1 dx mA
 ne:dx≠x
theorem ut {h:Heap}{dx:Addr}{mA:Str->Option Value}(n:h.Ns1 dx mA):∃od,h.get? dx=some od∧∀name,PySem.W.lookIn name od=some (mA name):=by
 obtain⟨o,es,ep,ho,hd,hk,_,hm⟩:=n;refine⟨o,ho,fun name=>?_⟩;have e:=hm name;unfold nsFind findBy at e;rw[<- Array.find?_toList] at e;unfold PySem.W.lookIn;rw[hd];dsimp only;split
 ·rename_i y q;rw[q] at e;exact congrArg some e
 ·rename_i q;rw[q] at e;have a:es.toList.any (·.refKey)=false:=by
   rw[List.any_eq_false];intro y hy;obtain⟨z,t,ad⟩:=hk y (Array.mem_toList_iff.mp hy);simp[DictEntry.refKey,ad]
  have a':¬ es.toList.any (·.refKey)=true:=by rw[a];exact Bool.false_ne_true
  rw[if_neg a'];exact congrArg some e
theorem ObjM.look {h:Heap}{x dx C:Addr}{mA:Str->Option Value}(I:ObjM h x dx C mA):∃od,PySem.W.InstAt h x (PySem.W.instObj C dx) C (some od)∧∀name,PySem.W.lookIn name od=some (mA name):=
 let ⟨od,ho,hl⟩:=ut I.ns
 ⟨od,⟨I.obj,rfl,rfl,ho⟩,hl⟩
section
variable {prog:Program}{w:World}{A:Around}{E:Value->Shared->Prop}{s:Shared}{K:W.Frag}{x dx C f:Addr}{mA:Str->Option Value}{name:Str}{v:Value}
theorem uu {expr:Bool}{Q:Value->Shared->Prop}(X:K.In s.heap)(I:ObjM s.heap x dx C mA)(hg:PySem.W.plainGet K C name=true)(hh:PySem.W.hasDictIn K C=true)
  (ha:PySem.W.findIn K (.ref C) name=some none) (hv:mA name=some v) (hv':PySem.W.handedIn v=true) (h:Q v {s with toks:=s.toks+1}) :
  wpAny (model prog w) A (getAttr (.ref x) name expr) Q E s:=by
 obtain⟨od,J,hl⟩:=I.look;exact PySem.W.get_value X J (PySem.W.plainGet_of hg).1 (PySem.W.findObj_own hh ha rfl (by rw[hl,hv])) hv' h
theorem uv {pl:Sem Bool}{Q:Value×List Value->Shared->Prop}(X:K.In s.heap)(I:ObjM s.heap x dx C mA)(hg:PySem.W.plainGet K C name=true)
  (hf:PySem.W.findIn K (.ref C) name=some (some (.ref f))) (ht:PySem.W.isFn K (.ref f)=true) (hv:mA name=none) (h:Q (.ref f,[.ref x]) s) :
  wpAny (model prog w) A (getMethod (.ref x) name pl) Q E s:=by
 obtain⟨od,J,hl⟩:=I.look;exact PySem.W.method_fn X J (PySem.W.plainGet_of hg).1 (PySem.W.plainGet_of hg).2 hf (beq_iff_eq.mp ht) (by show (PySem.W.lookIn name od).map (·.isSome)=some false;rw[hl,hv];rfl) h
theorem uw {ns:List Str}{Q:Unit->Shared->Prop}(X:K.In s.heap)(I:ObjM s.heap x dx C mA)
  (hs:PySem.W.findIn K (.ref C) "__setattr__"=some (some (.builtin "object.__setattr__"))) (hp:PySem.W.plainOver K C=true) (ht:PySem.W.takerIn K C name=some none) (hh:PySem.W.hasDictIn K C=true)
  (hw:PySem.Within mA ns) (hsz:ns.length≤sizeLine)
  (h:∀h',ObjM h' x dx C (fun y=>if y=name then some v else mA y)->Heap.SameBut dx s.heap h'->Q () {s with heap:=h',toks:=s.toks+2}) :
  wpAny (model prog w) A (setAttr (.ref x) name v) Q E s:=by
 obtain⟨od,J,hl⟩:=I.look;refine PySem.W.set_plain X J hs (PySem.W.osa_open (s:={ s with toks:=s.toks+1}) (r:=none) X J hp ht fun b=>?_);obtain⟨cd,hc,BT⟩:=PySem.W.any_some hh;have hx:s.heap.get? x=some ⟨.ref C,some dx,.plain,#[]⟩:=I.obj;refine wpAny_bind (wpAny_pure (wpAny_bind (wpAny_bind (wpAny_loadPart hx (wpAny_bind (PySem.W.Looks.here (s:={ s with toks:=s.toks+1}) (PySem.W.looks_clsIn X hc) ?_))))));rw[BT];refine wpAny_pure (a:=some dx) (wpAny_bind (wpAny_pure (wpAny_bind ?_)));refine wpAny_nsSet1 (s:={ s with toks:=s.toks+1}) I.ns fun h' dl ad=>?_;obtain⟨oD,Fn,Fr,ld,mt,Cl⟩:=dl.count (PySem.Within.cons name v hw);refine wpAny_bind (wpAny_lookBehind ld (by rw[mt];exact pastItsLine_dict (Nat.le_trans Cl (by rw[length_cons];lia))) ?_);exact wpAny_pure (h _ ⟨(ad.2 _ (Ne.symm I.ne)).trans I.obj,dl,I.ne⟩ ad)
theorem ux {R:Result->Shared->Prop}{vs:List Value}{kw:List (Str×Value)}(X:K.In s.heap)(hm:PySem.W.makesIn K C=true)
  (hi:PySem.W.findIn K (.ref C) "__init__"=some (some (.ref f))) (hf:PySem.W.typeIn K (.ref f)=some (.type "function"))
  (h:codeAny (model prog w) (A.under (.builtin "type.__call__" ⟨.ref C::vs,kw⟩)) (.call (.ref f) ⟨.ref (s.heap.objs.size+1)::vs,kw⟩) (PySem.W.InitBack (s.heap.objs.size+1) R)
   { s with heap:=(s.heap.push PySem.W.emptyDict).push (PySem.W.instObj C s.heap.objs.size)}) :
  codeAny (model prog w) A (.call (.ref C) ⟨vs,kw⟩) R s:=by
 obtain⟨hh,g,d,t,os⟩:=s;exact PySem.W.make_core (PySem.W.makes_of X hm) (PySem.W.looks_findIn X hi) (fun self=>PySem.W.bind_fn X self hf) (.inl rfl) h
end
noncomputable def putF (f:Str)(v:V):List (Str×V)->List (Str×V)
 |[]=>[(f,v)]
 | (g,x)::r=>if g=f then (g,v)::r else (g,x)::putF f v r
theorem lp (f g:Str)(v:V):∀fs:List (Str×V),(putF f v fs).lookup g=if g=f then some v else fs.lookup g
 |[]=>by
  show List.lookup g [(f,v)]=_;by_cases h:g=f
  ·have hb:(g == f)=true:=beq_iff_eq.mpr h;simp only[List.lookup,hb,if_pos h]
  ·have hb:(g == f)=false:=beq_eq_false_iff_ne.mpr h;simp only[List.lookup,hb,if_neg h]
 | (k,x)::r=>by
  have ih:=lp f g v r;rw[show putF f v ((k,x)::r)=(if k=f then (k,v)::r else (k,x)::putF f v r) from rfl];by_cases hk:k=f
  ·rw[if_pos hk];by_cases h:g=k
   ·have hb:(g == k)=true:=beq_iff_eq.mpr h;simp only[List.lookup,hb,if_pos (h.trans hk)]
   ·have hb:(g == k)=false:=beq_eq_false_iff_ne.mpr h;simp only[List.lookup,hb,if_neg (fun e:g=f=>h (e.trans hk.symm))]
  ·rw[if_neg hk];by_cases h:g=k
   ·have hb:(g == k)=true:=beq_iff_eq.mpr h;simp only[List.lookup,hb,if_neg (fun e:g=f=>hk (h.symm.trans e))]
   ·have hb:(g == k)=false:=beq_eq_false_iff_ne.mpr h;simp only[List.lookup,hb];exact ih
theorem ii (f:Str)(v:V):∀fs:List (Str×V),f∈(putF f v fs).map (·.1)∧∀g,g∈fs.map (·.1)->g∈(putF f v fs).map (·.1)
 |[]=>⟨by simp[putF],fun g h=>by simp at h⟩
 | (k,x)::r=>by
  obtain⟨i1,i2⟩:=ii f v r;rw[show putF f v ((k,x)::r)=(if k=f then (k,v)::r else (k,x)::putF f v r) from rfl];by_cases hk:k=f
  ·rw[if_pos hk];subst hk;exact⟨by simp,fun g h=>by simpa using h⟩
  ·rw[if_neg hk];refine⟨?_,fun g h=>?_⟩
   ·rw[map_cons];exact mem_cons_of_mem _ i1
   ·rw[map_cons] at h ⊢;rcases mem_cons.mp h with e|e
    ·exact mem_cons.mpr (.inl e)
    ·exact mem_cons_of_mem _ (i2 g e)
theorem lq (f:Str)(v:V):∀fs:List (Str×V),(putF f v fs).length≤fs.length+1
 |[]=>by simp[putF]
 | (k,x)::r=>by
  have ih:=lq f v r;rw[show putF f v ((k,x)::r)=(if k=f then (k,v)::r else (k,x)::putF f v r) from rfl];by_cases hk:k=f
  ·rw[if_pos hk,length_cons,length_cons];lia
  ·rw[if_neg hk,length_cons,length_cons];lia
theorem RelO.some_of {v:V}{o:Option Value}(r:RelO (some v) o):∃u,o=some u∧RelV v u:=by
 cases o with
 |none=>exact (show False from r).elim
 |some u=>exact⟨u,rfl,r⟩
theorem RelO.none_of {o:Option Value}(r:RelO none o):o=none:=by
 cases o with
 |none=>rfl
 |some u=>exact (show False from r).elim
theorem uy {v:V}{u:Value}(r:RelV v u):PySem.W.handedIn u=true:=by
 cases v with
 |non=>cases (show u=Value.none from r);rfl
 |bl b=>cases (show u=Value.bool b from r);rfl
 |int i=>obtain⟨t,e⟩:=(show ∃t,u=Value.int i t from r);cases e;rfl
 |str x=>obtain⟨t,e⟩:=(show ∃t,u=Value.str x t from r);cases e;rfl
 |byt b=>obtain⟨t,e⟩:=(show ∃t,u=Value.bytes b t from r);cases e;rfl
 |flt b=>obtain⟨t,e⟩:=(show ∃t,u=Value.float b t from r);cases e;rfl
 |ref a=>cases (show u=Value.ref a from r);rfl
 |ty n=>cases (show u=Value.type n from r);rfl
section
variable {P:Program}{w:World}{H H':Hp}{h h':Heap}{a C dx:Addr}{fs fs':List (Str×V)}
theorem fc (hok:HOk P w H h)(e:H a=some (.ins C dx fs)):∃mA,ObjM h a dx C mA∧(∀f,RelO (fs.lookup f) (mA f))∧PySem.Within mA (fs.map (·.1))∧fs.length≤1000∧H dx=some (.own a):=by obtain⟨d,z,ne,ob,mA,n,r,q⟩:=(show ObjOk P w H h a (.ins C dx fs) from hok a _ e);exact⟨mA,⟨ob,n,ne⟩,r,q,z,d⟩
end
structure Cls (K:W.Frag)(C:Addr):Prop where
 pg:PySem.W.plainGet K C Str.empty=true
 hd:PySem.W.hasDictIn K C=true
 po:PySem.W.plainOver K C=true
 sa:PySem.W.findIn K (.ref C) "__setattr__"=some (some (.builtin "object.__setattr__"))
theorem Cls.get {K:W.Frag}{C:Addr}(c:Cls K C)(f:Str):PySem.W.plainGet K C f=true:=c.pg
noncomputable def NoAttr (K:W.Frag)(C:Addr)(f:Str):Prop:=PySem.W.findIn K (.ref C) f=some none
theorem NoAttr.taker {K:W.Frag}{C:Addr}{f:Str}(n:NoAttr K C f):PySem.W.takerIn K C f=some none:=by unfold PySem.W.takerIn;rw[show PySem.W.findIn K (.ref C) f=some none from n];rfl
structure Con (K:W.Frag)(C:Addr)(f:Str)(v:V)(u:Value):Prop where
 at_:PySem.W.findIn K (.ref C) f=some (some u)
 rel:RelV v u
 get:PySem.W.specialIn K u "__get__"=some none
 cp:PySem.W.copiedNames.contains f=false
structure Meth (K:W.Frag)(C:Addr)(m:Str)(f:Addr):Prop where
 at_:PySem.W.findIn K (.ref C) m=some (some (.ref f))
 fn:PySem.W.isFn K (.ref f)=true
 kp:PySem.W.keepIn K (.ref f)=true
section
variable {X:Cx}{pins:List (Addr×Obj)}{σ:St}{H:Hp}{s:Shared}{a C dx:Addr}{fs:List (Str×V)}{f:Str}{v:V}{A:Around}{E:Value->Shared->Prop}
theorem uz {b:Bool}{Q:Value->Shared->Prop}(I:Inv X pins σ H s)(e:H a=some (.ins C dx fs))(c:Cls X.K C)(n:NoAttr X.K C f)(l:fs.lookup f=some v)
  (h:∀u s',Inv X pins σ H s'->RelV v u->Q u s'):wpAny (model X.prog X.w) A (getAttr (.ref a) f b) Q E s:=by
 obtain⟨mA,O,r,_,_,_⟩:=fc I.hok e;obtain⟨u,hu,ru⟩:=RelO.some_of (v:=v) (o:=mA f) (by rw[<- l];exact r f);exact uu I.kIn O (c.get f) c.hd n hu (uy ru) (h u _ (I.tok _) ru)
theorem ij {m:Str}{g:Addr}{pl:Sem Bool}{Q:Value×List Value->Shared->Prop}(I:Inv X pins σ H s)(e:H a=some (.ins C dx fs))(c:Cls X.K C)(k:Meth X.K C m g)(l:fs.lookup m=none)
  (h:Q (.ref g,[.ref a]) s):wpAny (model X.prog X.w) A (getMethod (.ref a) m pl) Q E s:=by
 obtain⟨mA,O,r,_,_,_⟩:=fc I.hok e;have hn:mA m=none:=RelO.none_of (by rw[<- l];exact r m);exact uv I.kIn O (c.get m) k.at_ k.fn hn h
theorem vA {y:V}{u:Value}{Q:Unit->Shared->Prop}(I:Inv X pins σ H s)(e:H a=some (.ins C dx fs))(c:Cls X.K C)(n:NoAttr X.K C f)(hl:fs.length < 1000)(ry:RelV y u)
  (h:∀s',Inv X pins σ (upd H a (.ins C dx (putF f y fs))) s'->Q () s'):wpAny (model X.prog X.w) A (setAttr (.ref a) f u) Q E s:=by
 obtain⟨mA,O,r,wi,_,ho⟩:=fc I.hok e;have hz:(fs.map (·.1)).length≤sizeLine:=by rw[length_map,sizeLine_eq];lia
 refine uw I.kIn O c.sa c.po n.taker c.hd wi hz fun h' O' sb=>h _ ?_;have hd:∃o,h'.get? dx=some o:=let ⟨o,_,_,e',_⟩:=O'.ns;⟨o,e'⟩
 refine I.write (x:=a) (e:=dx) (by rw[e];exact True.intro) (.inr ho) (fun b q hb z=>(sb.2 b hb).trans z) hd ?_;refine⟨by rw[aN O.ne];exact ho,?_,O.ne,O'.obj,_,O'.ns,fun g=>?_,fun g hg=>?_⟩
 ·have:=lq f y fs;lia
 ·show RelO ((putF f y fs).lookup g) (if g=f then some u else mA g);rw[lp];by_cases q:g=f
  ·rw[if_pos q,if_pos q];exact ry
  ·rw[if_neg q,if_neg q];exact r g
 ·by_cases q:g=f
  ·rw[q];exact (ii f y fs).1
  ·refine (ii f y fs).2 g (wi g fun z=>hg ?_);show (if g=f then some u else mA g)=none;rw[if_neg q];exact z
theorem Inv.made (I:Inv X pins σ H s):Inv X pins σ (upd (upd H s.heap.objs.size (.own (s.heap.objs.size+1))) (s.heap.objs.size+1) (.ins C s.heap.objs.size []))
  { s with heap:=(s.heap.push PySem.W.emptyDict).push (PySem.W.instObj C s.heap.objs.size)}:=by
 have e1:(s.heap.push PySem.W.emptyDict).get? s.heap.objs.size=some PySem.W.emptyDict:=Heap.get?_push_size s.heap rfl;have e2:((s.heap.push PySem.W.emptyDict).push (PySem.W.instObj C s.heap.objs.size)).get? (s.heap.objs.size+1)=some (PySem.W.instObj C s.heap.objs.size):=by
  have:=Heap.get?_push_size (s.heap.push PySem.W.emptyDict) (o:=PySem.W.instObj C s.heap.objs.size) rfl
  rwa [Heap.size_push] at this
 have e3:(s.heap.push PySem.W.emptyDict).Ns s.heap.objs.size (fun _=>none):=⟨PySem.W.emptyDict,#[],_,e1,rfl,(fun e he=>absurd he (by simp)),fun _=>rfl⟩;have I1:=I.laid (a:=s.heap.objs.size) (o:=.own (s.heap.objs.size+1)) (h':=s.heap.push PySem.W.emptyDict) (t':=s.toks) (fun b u q=>Heap.get?_push_of_some _ q) (Nat.le_refl _) ⟨_,e1⟩;refine I1.laid (a:=s.heap.objs.size+1) (o:=.ins C s.heap.objs.size []) (t':=s.toks) (fun b u q=>Heap.get?_push_of_some _ q) (Nat.le_of_eq (Heap.size_push _ _)) ?_;have ne:s.heap.objs.size≠s.heap.objs.size+1:=Nat.ne_of_lt (Nat.lt_succ_self _);refine⟨by rw[aN ne,aL],Nat.zero_le _,ne,e2,fun _=>none,(Heap.Ns1.of_empty e3).at fun o q=>Heap.get?_push_of_some _ q,fun _=>True.intro,fun y hy=>absurd rfl hy⟩
theorem vB {prog:Program}{w:World}{env:Env}{e:Expr}{f:Str}{pos:Pos}{s:Shared}{Q:Value->Shared->Prop}(hb:attributeBase e f env (eval e env)=eval e env)
  (h:wpAny (model prog w) A (eval e env) (fun o s₁=>wpAny (model prog w) A (getAttr o f true) Q E s₁) E s):wpAny (model prog w) A (eval (.Attribute e f pos) env) Q E s:=
 Attribute_any_ h (by rw[arm_eval_Attribute,hb])
end
noncomputable def tFld (K:W.Frag)(ta:TE)(f:Str):TE:=fun σ H Q=>ta σ H fun x H1=>∃a C dx fs v,x=.ref a∧H1 a=some (.ins C dx fs)∧Cls K C∧NoAttr K C f∧fs.lookup f=some v∧Q v H1
noncomputable def sFld (K:W.Frag)(ta tv:TE)(f:Str):TS:=fun D σ H=>tv σ H fun y H1=>ta σ H1 fun x H2=>∃a C dx fs,x=.ref a∧H2 a=some (.ins C dx fs)∧Cls K C∧NoAttr K C f∧fs.length < 1000 ∧
 D.nx σ (upd H2 a (.ins C dx (putF f y fs)))
section
variable {X:Cx}{o e value:Expr}{f:Str}{pos pos' tpos:Pos}{ta tv:TE}
theorem bC (he:PE X e ta)(hb:attributeBase e f X.env (eval e X.env)=eval e X.env):PE X (.Attribute e f pos) (tFld X.K ta f):=by intro pins s σ H Q I h;refine vB hb (thn (he pins s σ H _ I h) fun u s1 W'=>?_);obtain⟨x,H1,I1,rx,a,C,dx,fs,v,ex,ea,c,n,l,q⟩:=W';subst ex;obtain rfl:u=Value.ref a:=rx;exact uz I1 ea c n l fun u' s2 I2 ru=>⟨v,H1,I2,ru,q⟩
theorem fe (ha:PE X o ta)(hv:PE X value tv)(hs:swapsWith value (some (.Attribute o f pos')) pos.line X.env=pure false):PS X (.Assign [.Attribute o f pos'] value pos) (sFld X.K ta tv f):=by intro ad s σ H D I h;refine plainObj_wpAny_Assign_Attribute (thn (hv ad s σ H _ I h) fun u s1 ⟨y,H1,I1,ry,q⟩=>thn (ha ad s1 σ H1 _ I1 q) fun ov s2 W'=>?_) hs;obtain⟨x,H2,I2,rx,a,C,dx,fs,ex,ea,c,n,l,q2⟩:=W';subst ex;obtain rfl:ov=Value.ref a:=rx;exact vA I2 ea c n l ry fun s3 I3=>⟨σ,_,I3,q2⟩
theorem Fw {pl:Sem Bool}{m:Str}{apos:Pos}{args:List Expr}{pins:List (Addr×Obj)}{s:Shared}{σ:St}{H:Hp}{Q:Value->Shared->Prop}{te:TE}(he:PE X e te)(I:Inv X pins σ H s)
  (h:te σ H fun x H1=>∃a C dx fs g,x=.ref a∧H1 a=some (.ins C dx fs)∧Cls X.K C∧Meth X.K C m g∧fs.lookup m=none ∧
   ∀s1,Inv X pins σ H1 s1->wpAny (model X.prog X.w) X.A (callWith pos (.ref g) [.ref a] (backTo pos (starEach args X.env)) (backToKw pos (keywordEach [] X.env))) Q X.xe s1)
  (ht:eval (.Call (.Attribute e m apos) args [] pos) X.env=(do
   let ov <- eval e X.env
   standAt apos.atName
   let (f,first) <- holding [ov] (getMethod ov m pl)
   callWith pos f first (backTo pos (starEach args X.env)) (backToKw pos (keywordEach [] X.env)))) :
  wpAny (model X.prog X.w) X.A (eval (.Call (.Attribute e m apos) args [] pos) X.env) Q X.xe s:=by
 refine PySem.W.methodCall_KW (pl:=pl) (thn (he pins s σ H _ I h) fun u s1 W'=>?_) ht;obtain⟨x,H1,I1,rx,a,C,dx,fs,g,ex,ea,c,k,l,q⟩:=W';subst ex;obtain rfl:u=Value.ref a:=rx;exact ij I1 ea c k l (q s1 I1)
end
section
variable {X:Cx}{pins:List (Addr×Obj)}{σ:St}{H:Hp}{s:Shared}{A:Around}{E:Value->Shared->Prop}{Q:Value->Shared->Prop}{c:Value}{b:Bool}
inductive TyOf (K:W.Frag)(H:Hp):V->Value->Prop where
 |non:TyOf K H .non (.type "NoneType")
 |bl (x:Bool):TyOf K H (.bl x) (.type "bool")
 |int (i:Int):TyOf K H (.int i) (.type "int")
 |str (x:Str):TyOf K H (.str x) (.type "str")
 |flt (x:UInt64):TyOf K H (.flt x) (.type "float")
 |lst {a:Addr}{xs:List V} (e:H a=some (.lst xs)):TyOf K H (.ref a) (.type "list")
 |frz {a:Addr}{o:Obj}{xs:List V} (e:H a=some (.frz o (.lst xs))):TyOf K H (.ref a) (.type "list")
 |tup {a:Addr}{xs:List V} (e:H a=some (.tup xs)):TyOf K H (.ref a) (.type "tuple")
 |dK {a:Addr}{kvs:List (Key×V)} (e:H a=some (.dK kvs)):TyOf K H (.ref a) (.type "dict")
 |dT {a:Addr}{kvs:List (List Key×V)} (e:H a=some (.dT kvs)):TyOf K H (.ref a) (.type "dict")
 |ins {a C dx:Addr}{fs:List (Str×V)} (e:H a=some (.ins C dx fs)) (cl:Cls K C) (ha:PySem.W.findIn K (.ref C) "__class__"=some (some (.builtin "object.__class__")))
   (hn:PySem.W.specialIn K (.builtin "object.__class__") "__get__"=some (some (.builtin "getset_descriptor.__get__"))) (htk:PySem.W.takesIn K (.builtin "object.__class__")=some true)
   (hm:PySem.W.mroIn K C (.type "object")=some true):TyOf K H (.ref a) (.ref C)
theorem vC {x:V}{u t:Value}(I:Inv X pins σ H s)(rx:RelV x u)(ty:TyOf X.K H x t)(e:PySem.W.kitOne X.K t c=some b)(h:∀tk,Q (.bool b) {s with toks:=tk}) :
  wpAny (model X.prog X.w) A (call (.builtin "isinstance") [u,c]) Q E s:=by
 cases ty with
 |non=>cases (show u=Value.none from rx);exact PySem.W.kia_one PySem.W.kitx_none I.kIn True.intro e (fun z=>nomatch z) h
 |bl y=>cases (show u=Value.bool y from rx);exact PySem.W.kia_one PySem.W.kitx_bool I.kIn True.intro e (fun z=>nomatch z) h
 |int i=>obtain⟨t,q⟩:=(show ∃t,u=Value.int i t from rx);cases q;exact PySem.W.kia_one PySem.W.kitx_int I.kIn True.intro e (fun z=>nomatch z) h
 |str y=>obtain⟨t,q⟩:=(show ∃t,u=Value.str y t from rx);cases q;exact PySem.W.kia_one PySem.W.kitx_str I.kIn True.intro e (fun z=>nomatch z) h
 |flt y=>obtain⟨t,q⟩:=(show ∃t,u=Value.float y t from rx);cases q;exact PySem.W.kia_one PySem.W.kitx_float I.kIn True.intro e (fun z=>nomatch z) h
 |@lst a xs ea=>cases (show u=Value.ref a from rx);obtain⟨_,_,n,_,h1⟩:=(show ObjOk X.prog X.w H s.heap a (.lst xs) from I.hok a _ ea);exact PySem.W.kia_one PySem.W.kitx_list I.kIn ⟨_,h1,rfl⟩ e (fun z=>nomatch z) h
 |@frz a ob xs ea=>cases (show u=Value.ref a from rx);obtain⟨_,_,_,n,_,h1⟩:=(show ObjOk X.prog X.w H s.heap a (.frz ob (.lst xs)) from I.hok a _ ea);exact PySem.W.kia_one PySem.W.kitx_list I.kIn ⟨_,h1,rfl⟩ e (fun z=>nomatch z) h
 |@tup a xs ea=>cases (show u=Value.ref a from rx);obtain⟨_,_,_,p⟩:=(show ObjOk X.prog X.w H s.heap a (.tup xs) from I.hok a _ ea);obtain⟨o,h1,h2,_⟩:=p;exact PySem.W.kia_one PySem.W.kitx_tuple I.kIn ⟨o,h1,h2⟩ e (fun z=>nomatch z) h
 |@dK a kvs ea=>cases (show u=Value.ref a from rx);obtain⟨_,_,vs,_,p⟩:=(show ObjOk X.prog X.w H s.heap a (.dK kvs) from I.hok a _ ea);obtain⟨o,es,ep,h1,h2,_⟩:=p;exact PySem.W.kia_one PySem.W.kitx_dict I.kIn ⟨o,h1,h2.1⟩ e (fun z=>nomatch z) h
 |@dT a kvs ea=>cases (show u=Value.ref a from rx);obtain⟨_,_,xs,_,o,es,ep,h1,h2,_⟩:=(show ObjOk X.prog X.w H s.heap a (.dT kvs) from I.hok a _ ea);exact PySem.W.kia_one PySem.W.kitx_dict I.kIn ⟨o,h1,h2.1⟩ e (fun z=>nomatch z) h
 |@ins a C dx fs ea cl ha hn htk hm=>cases (show u=Value.ref a from rx);obtain⟨mA,O,_⟩:=fc I.hok ea;obtain⟨od,J,_⟩:=O.look;exact PySem.W.kia_one (PySem.W.kitx_own (cl.get _) cl.hd ha hn htk hm) I.kIn J e (fun z=>nomatch z) h
end
structure Room (k:Nat)(A:Around):Prop where
 hd:A.handled=none
 dp:A.depth+3 * k+5 < recursionLimit
 un:A.units+16 * k+200 < cLine
theorem Room.mono {j k:Nat}{A:Around}(r:Room k A)(h:j≤k):Room j A:=⟨r.hd,by have:=r.dp;lia,by have:=r.un;lia⟩
theorem Room.deeper {k:Nat}{A:Around}(r:Room (k+1) A)(env:Env):Room k (A.deeper env):=
 ⟨r.hd,by have:=r.dp;show A.depth+1+3 * k+5 < _;lia,by have:=r.un;show A.units+3+16 * k+200 < _;lia⟩
theorem vD {A:Around}{C:Addr}{us:List Value}{kw:List (Str×Value)}:(A.under (.builtin "type.__call__" ⟨.ref C::us,kw⟩)).depth=A.depth+1:=by first|rfl|simp[Around.under,Code.weight,Code.isCreation,Code.isGuard,Code.isCaller,Code.frames,Code.isFrame,guardIds]
theorem vE {A:Around}{C:Addr}{us:List Value}{kw:List (Str×Value)}:(A.under (.builtin "type.__call__" ⟨.ref C::us,kw⟩)).units=A.units+1:=by first|rfl|simp[Around.under,Code.cUnits,Code.frames,Code.isFrame]
theorem Room.make {k:Nat}{A:Around}(r:Room (k+1) A)(C:Addr)(us:List Value)(kw:List (Str×Value)):Room k (A.under (.builtin "type.__call__" ⟨.ref C::us,kw⟩)):=
 ⟨r.hd,by have:=r.dp;rw[vD];lia,by have:=r.un;rw[vE];lia⟩
theorem Room.depth {k:Nat}{A:Around}(r:Room k A):A.depth < recursionLimit:=by have:=r.dp;lia
theorem Room.units {k:Nat}{A:Around}(r:Room k A):A.units+64 < cLine:=by have:=r.un;lia
noncomputable def tNil:TA:=fun _ H Q=>Q [] H
noncomputable def tCons (ta:TE)(tr:TA):TA:=fun σ H Q=>ta σ H fun x H1=>tr σ H1 fun xs H2=>Q (x::xs) H2
section
variable {X:Cx}{e:Expr}{es:List Expr}{te:TE}{t:TA}{pos:Pos}
theorem a9:PA X [] tNil:=fun _ _ _ _ H Q I h=>Calls.spliced_nil ⟨[],H,I,.nil,h⟩
theorem a8 (ha:PE X e te)(hr:PA X es t)(hs:starEach (e::es) X.env=(false,eval e X.env)::starEach es X.env:=by rfl):PA X (e::es) (tCons te t):=by intro dl ad s σ H Q I h;rw[hs];show wpAny _ _ (spliced ((false,eval e X.env)::backTo dl (starEach es X.env))) _ _ s;refine Calls.spliced_cons (thn (ha ad s σ H _ I h) fun u s1 W'=>?_);obtain⟨x,H1,I1,r1,q1⟩:=W';exact thn (hr dl ad s1 σ H1 _ I1 q1) fun us s2 ⟨xs,H2,I2,r2,q2⟩=>⟨x::xs,H2,I2,.cons r1 r2,q2⟩
noncomputable def tTup (t:TA):TE:=fun σ H Q=>t σ H fun xs H1=>xs.length≤sizeLine∧∀p,H1 p=none->Q (.ref p) (upd H1 p (.tup xs))
noncomputable def tLst (t:TA):TE:=fun σ H Q=>t σ H fun xs H1=>xs.length≤sizeLine∧∀p,H1 p=none->Q (.ref p) (upd H1 p (.lst xs))
theorem lr (h:PA X es t):PE X (.List es pos) (tLst t):=by intro ad s σ H Q I hq;refine wpAny_List_spliced (thn (h pos ad s σ H _ I hq) fun us s1 ⟨xs,H1,I1,r,z,q⟩=>⟨by rw[<- r.length];exact z,?_⟩);have hf:H1 s1.heap.objs.size=none:=I1.hok.fresh (Nat.le_refl _);refine⟨.ref s1.heap.objs.size,upd H1 s1.heap.objs.size (.lst xs),I1.laid (t':=s1.toks) (fun b u e=>Heap.get?_push_of_some _ e) (Nat.le_refl _) ?_,rfl,q _ hf⟩;exact⟨z,us,0,r,Heap.get?_push_size _ rfl⟩
end
noncomputable abbrev Sp:=List V->Hp->VK->XK->Prop
noncomputable abbrev CXT:=List Env->Hp->Shared->XK->Value->Shared->Prop
structure Env0 (P:Program)(w:World)(K:W.Frag)(mg:Str->Option Value)(base:Heap)(A:Around)(outer:List Env)(s:Shared)(H:Hp):Prop where
 frames:A.frames=some outer
 mod:Mod K mg base
 bs:∀b o,base.get? b=some o->s.heap.get? b=some o∧H b=none
 bsz:base.objs.size≤s.heap.objs.size
 funs:s.heap.FunFrames base outer
 frf:∀b∈frs outer,H b=none
 hok:HOk P w H s.heap
 bare:AllBare s.gens
noncomputable def CE (outer:List Env)(P:Program)(w:World)(H:Hp)(s:Shared)(Q:VK)(u:Value)(s':Shared):Prop:=
 ∃v H',s'.os=s.os∧AllBare s'.gens∧Un (frs outer) [] H H' s.heap s'.heap∧HOk P w H' s'.heap∧RelV v u∧Q v H'
noncomputable def CR (CX:CXT)(outer:List Env)(P:Program)(w:World)(H:Hp)(s:Shared)(Q:VK)(E:XK)(r:Result)(s':Shared):Prop:=
 match r with
 |.ok (.ret u)=>CE outer P w H s Q u s'
 |.ok _=>False
 |.error e=>CX outer H s E e s'
structure FnOk (P:Program)(w:World)(K:W.Frag)(mg:Str->Option Value)(base:Heap)(CX:CXT)(k:Nat)(f:Addr)(fd:FuncData)(ps:List Str)(sp:Sp):Prop where
 len:∀vs H Q E,sp vs H Q E->vs.length=ps.length
 run:∀(A:Around) (outer:List Env) (s:Shared) (H:Hp) (args:Args) (us:List Value) (vs:List V) (Q:VK) (E:XK),Room k A->Env0 P w K mg base A outer s H->BindsTo s fd args (ps.zip us)->Vals vs us->sp vs H Q E ->
  codeAny (model P w) A (.call (.ref f) args) (CR CX outer P w H s Q E) s
theorem Env0.make {P:Program}{w:World}{K:W.Frag}{mg:Str->Option Value}{base:Heap}{A:Around}{outer:List Env}{s:Shared}{H:Hp}(e:Env0 P w K mg base A outer s H)(C:Addr)(us:List Value)(kw:List (Str×Value)) :
  Env0 P w K mg base (A.under (.builtin "type.__call__" ⟨.ref C::us,kw⟩)) outer s H:=⟨by first|exact e.frames|(simpa [Around.under,Code.envs,Code.isFrame,pushEnvs] using e.frames),e.mod,e.bs,e.bsz,e.funs,e.frf,e.hok,e.bare⟩
section
variable {X:Cx}{pins:List (Addr×Obj)}{σ:St}{H:Hp}{s s':Shared}
theorem Inv.env0 (I:Inv X pins σ H s):Env0 X.prog X.w X.K X.mg X.base X.A X.stack s H:=
 ⟨I.ok.frames,I.ok.mod,I.bs,Nat.le_trans I.ok.bsz I.sz,I.stack,I.stkFree,I.hok,I.bare⟩
theorem Inv.after {Q:VK}{u:Value}(I:Inv X pins σ H s)(h:CE X.stack X.prog X.w H s Q u s'):EP X pins σ Q u s':=by obtain⟨v,H',os,bare,un,hok,r,q⟩:=h;obtain⟨hh,g,d,t,os'⟩:=s';obtain rfl:os'=s.os:=os;exact⟨v,H',I.call (h':=hh) (g':=g) (d':=d) (t':=t) (ch:=[]) un hok bare (fun b z=>absurd z (by simp)),r,q⟩
end
noncomputable def tCall (sp:Sp)(dvs:List V)(E:XK)(t:TA):TE:=fun σ H Q=>t σ H fun vs H1=>sp (vs++dvs) H1 Q E
noncomputable def tMeth (C:Addr)(m:Str)(sp:Sp)(dvs:List V)(E:XK)(ta:TE)(t:TA):TE:=fun σ H Q=>ta σ H fun x H1=>∃a dx fs,x=.ref a∧H1 a=some (.ins C dx fs)∧fs.lookup m=none ∧
 t σ H1 fun vs H2=>sp (x::(vs++dvs)) H2 Q E
noncomputable def tMake (C:Addr)(sp:Sp)(dvs:List V)(E:XK)(t:TA):TE:=fun σ H Q=>t σ H fun vs H1=>∀x dx,H1 x=none->H1 dx=none->dx≠x ->
 sp (.ref x::(vs++dvs)) (upd (upd H1 dx (.own x)) x (.ins C dx [])) (fun v H2=>v=.non∧Q (.ref x) H2) E
noncomputable def Binds (K:W.Frag)(fd:FuncData)(ps:List Str)(ds:List Value):Prop:=
 ∀(s:Shared) (us:List Value),K.In s.heap->(us++ds).length=ps.length->BindsTo s fd ⟨us,[]⟩ (ps.zip (us++ds))
theorem Binds.all {K:W.Frag}{fd:FuncData}{ps:List Str}(h:∀us:List Value,us.length=ps.length->bindArgs fd ⟨us,[]⟩=pure (ps.zip us)):Binds K fd ps []:=fun s us _ hl=>by rw[append_nil] at hl ⊢;exact .of_eq (h us hl)
noncomputable def Passes (CX:CXT)(X:Cx)(E:XK):Prop:=∀(pins:List (Addr×Obj)) (σ:St) (H:Hp) (s:Shared) (e:Value) (s':Shared),Inv X pins σ H s->CX X.stack H s E e s'->X.xe e s'
section
variable {X:Cx}{CX:CXT}{k:Nat}{f C:Addr}{fd:FuncData}{ps:List Str}{sp:Sp}{dvs:List V}{ds:List Value}{E:XK}{x m:Str}{p pos apos:Pos}{e o:Expr}{es:List Expr}{ta:TE}{t:TA}
theorem ik {pins:List (Addr×Obj)}{σ:St}{H:Hp}{s:Shared}{Q:VK}{us:List Value}{vs:List V}(F:FnOk X.prog X.w X.K X.mg X.base CX k f fd ps sp)(hr:Room k X.A)(hb:Binds X.K fd ps ds)(hd:Vals dvs ds)(hx:Passes CX X E)
  (I:Inv X pins σ H s) (r:Vals vs us) (h:sp (vs++dvs) H Q E):wpAny (model X.prog X.w) X.A (call (.ref f) us) (EP X pins σ Q) X.xe s:=by
 have r2:Vals (vs++dvs) (us++ds):=r.append hd;have hl:(us++ds).length=ps.length:=by rw[<- r2.length];exact F.len _ _ _ _ h
 refine wpAny_call (codeAny_mono (F.run X.A X.stack s H ⟨us,[]⟩ (us++ds) (vs++dvs) Q E hr I.env0 (hb s us I.kIn hl) r2 h) fun r s' hq=>?_);cases r with
 |error e=>exact hx pins σ H s e s' I hq
 |ok fl=>
  cases fl with
  |ret u=>exact I.after hq
  |next=>exact False.elim hq
  |brk=>exact False.elim hq
  |cont=>exact False.elim hq
theorem bI (F:FnOk X.prog X.w X.K X.mg X.base CX k f fd ps sp)(hr:Room k X.A)(hg:Gl X x)(hm:X.mg x=some (.ref f))(hk:PySem.W.keepIn X.K (.ref f)=true)(hb:Binds X.K fd ps ds)(hd:Vals dvs ds)(hx:Passes CX X E)
  (ha:PA X (e::es) t) (hdb:(x == ("__debug__" : Str))=false:=by decide) (he:starEach (e::es) X.env=(false,eval e X.env)::starEach es X.env:=by rfl) (hpl:(backTo pos (starEach es X.env)).any (·.1)=false:=by rfl) :
  PE X (.Call (.Name x p) (e::es) [] pos) (tCall sp dvs E t):=by
 intro pins s σ H Q I h;refine wpAny_Call_Name_kw (ie I hg hm ?_ hdb);refine PySem.W.callWith_K (h₀:=X.base) I.ok.mod.kin hk (thn (ha pos pins s σ H _ I h) fun us s1 ⟨vs,H1,I1,r,q⟩=>⟨I1.kIn,?_⟩) he hpl;exact ik F hr hb hd hx I1 r q
theorem bJ {pl:Sem Bool}(he:PE X o ta)(c:Cls X.K C)(hm:Meth X.K C m f)(F:FnOk X.prog X.w X.K X.mg X.base CX k f fd ps sp)(hr:Room k X.A)(hb:Binds X.K fd ps ds)(hd:Vals dvs ds)(hx:Passes CX X E)(ha:PA X (e::es) t)
  (hst:starEach (e::es) X.env=(false,eval e X.env)::starEach es X.env:=by rfl) (hpl:(backTo pos (starEach es X.env)).any (·.1)=false:=by rfl)
  (ht:eval (.Call (.Attribute o m apos) (e::es) [] pos) X.env=(do
   let ov <- eval o X.env
   standAt apos.atName
   let (f,first) <- holding [ov] (getMethod ov m pl)
   callWith pos f first (backTo pos (starEach (e::es) X.env)) (backToKw pos (keywordEach [] X.env))):=by rfl) :
  PE X (.Call (.Attribute o m apos) (e::es) [] pos) (tMeth C m sp dvs E ta t):=by
 intro ad s σ H Q I h;refine PySem.W.methodCall_KW (pl:=pl) (thn (he ad s σ H _ I h) fun u s1 W'=>?_) ht;obtain⟨x,H1,I1,rx,a,dx,fs,ex,ea,l,q⟩:=W';subst ex;obtain rfl:u=Value.ref a:=rx;refine ij I1 ea c hm l ?_;refine PySem.W.callWith_K (first:=[.ref a]) (h₀:=X.base) I.ok.mod.kin hm.kp (thn (ha pos ad s1 σ H1 _ I1 q) fun us s2 ⟨vs,H2,I2,r,q2⟩=>⟨I2.kIn,?_⟩) hst hpl;exact ik (us:=.ref a::us) (vs:=.ref a::vs) F hr hb hd hx I2 (.cons rfl r) q2
theorem cV {pl:Sem Bool}(he:PE X o ta)(c:Cls X.K C)(hm:Meth X.K C m f)(F:FnOk X.prog X.w X.K X.mg X.base CX k f fd ps sp)(hr:Room k X.A)(hb:Binds X.K fd ps ds)(hd:Vals dvs ds)(hx:Passes CX X E)
  (ht:eval (.Call (.Attribute o m apos) [] [] pos) X.env=(do
   let ov <- eval o X.env
   standAt apos.atName
   let (f,first) <- holding [ov] (getMethod ov m pl)
   callWith pos f first (backTo pos (starEach [] X.env)) (backToKw pos (keywordEach [] X.env))):=by rfl) :
  PE X (.Call (.Attribute o m apos) [] [] pos) (tMeth C m sp dvs E ta tNil):=by
 intro ad s σ H Q I h;refine PySem.W.methodCall_KW (pl:=pl) (thn (he ad s σ H _ I h) fun u s1 W'=>?_) ht;obtain⟨x,H1,I1,rx,a,dx,fs,ex,ea,l,q⟩:=W';subst ex;obtain rfl:u=Value.ref a:=rx;refine ij I1 ea c hm l ?_;exact PySem.W.callWith_K0 (first:=[.ref a]) I1.kIn hm.kp (ik (us:=[.ref a]) (vs:=[.ref a]) F hr hb hd hx I1 (.cons rfl .nil) q)
structure Mk (K:W.Frag)(C f:Addr):Prop where
 makes:PySem.W.makesIn K C=true
 init:PySem.W.findIn K (.ref C) "__init__"=some (some (.ref f))
 fn:PySem.W.isFn K (.ref f)=true
 kp:PySem.W.keepIn K (.ref C)=true
theorem vF {pins:List (Addr×Obj)}{σ:St}{H:Hp}{s:Shared}{Q:VK}{us:List Value}{vs:List V}(M:Mk X.K C f)(F:FnOk X.prog X.w X.K X.mg X.base CX k f fd ps sp)(hr:Room (k+1) X.A)(hb:Binds X.K fd ps ds)(hd:Vals dvs ds)
  (hx:Passes CX X E) (I:Inv X pins σ H s) (r:Vals vs us)
  (h:∀x dx,H x=none->H dx=none->dx≠x->sp (.ref x::(vs++dvs)) (upd (upd H dx (.own x)) x (.ins C dx [])) (fun v H2=>v=.non∧Q (.ref x) H2) E) :
  wpAny (model X.prog X.w) X.A (call (.ref C) us) (EP X pins σ Q) X.xe s:=by
 have hq:=h (s.heap.objs.size+1) s.heap.objs.size (I.hok.fresh (Nat.le_succ _)) (I.hok.fresh (Nat.le_refl _)) (Nat.ne_of_lt (Nat.lt_succ_self _));have I2:=Inv.made (C:=C) I;have r2:Vals (V.ref (s.heap.objs.size+1)::(vs++dvs)) (Value.ref (s.heap.objs.size+1)::(us++ds)):=.cons rfl (r.append hd);have hl:(Value.ref (s.heap.objs.size+1)::us++ds).length=ps.length:=by have e:=r2.length;rw[F.len _ _ _ _ hq] at e;exact e.symm
 refine wpAny_call (ux (f:=f) I.kIn M.makes M.init (beq_iff_eq.mp M.fn) (codeAny_mono (F.run _ X.stack _ _ ⟨Value.ref (s.heap.objs.size+1)::us,[]⟩ (Value.ref (s.heap.objs.size+1)::(us++ds)) _ _ E (hr.make C us [])
  (I2.env0.make C us []) (hb _ (Value.ref (s.heap.objs.size+1)::us) I2.kIn hl) r2 hq) fun r s' ad=>?_))
 cases r with
 |error e=>exact hx pins σ _ _ e s' I2 ad
 |ok fl=>
  cases fl with
  |ret u=>obtain⟨v,H',I3,rv,ev,q3⟩:=I2.after ad;subst ev;exact⟨rv,⟨V.ref (s.heap.objs.size+1),H',I3,rfl,q3⟩⟩
  |next=>exact False.elim ad
  |brk=>exact False.elim ad
  |cont=>exact False.elim ad
theorem vG (M:Mk X.K C f)(F:FnOk X.prog X.w X.K X.mg X.base CX k f fd ps sp)(hr:Room (k+1) X.A)(hg:Gl X x)(hm:X.mg x=some (.ref C))(hb:Binds X.K fd ps ds)(hd:Vals dvs ds)(hx:Passes CX X E)
  (ha:PA X (e::es) t) (hdb:(x == ("__debug__" : Str))=false:=by decide) (he:starEach (e::es) X.env=(false,eval e X.env)::starEach es X.env:=by rfl) (hpl:(backTo pos (starEach es X.env)).any (·.1)=false:=by rfl) :
  PE X (.Call (.Name x p) (e::es) [] pos) (tMake C sp dvs E t):=by
 intro pins s σ H Q I h;refine wpAny_Call_Name_kw (ie I hg hm ?_ hdb);refine PySem.W.callWith_K (h₀:=X.base) I.ok.mod.kin M.kp (thn (ha pos pins s σ H _ I h) fun us s1 ⟨vs,H1,I1,r,q⟩=>⟨I1.kIn,?_⟩) he hpl;exact vF M F hr hb hd hx I1 r q
end
section
variable {X:Cx}{CX:CXT}{k:Nat}{f C:Addr}{fd:FuncData}{ps ks:List Str}{sp:Sp}{E:XK}{x m:Str}{p pos apos kpos:Pos}{e o:Expr}{es:List Expr}{kws:List Keyword}{te ta:TE}{t tk:TA}{nm:Option Str}
structure KBinds (K:W.Frag)(fd:FuncData)(ps ks:List Str)(g:List Value->List Value->List Value)(gV:List V->List V->List V):Prop where
 to:∀(s:Shared) (us ws:List Value),K.In s.heap->(g us ws).length=ps.length->BindsTo s fd ⟨us,ks.zip ws⟩ (ps.zip (g us ws))
 rel:∀{vs:List V}{us:List Value}{zs:List V}{ws:List Value},Vals vs us->Vals zs ws->Vals (gV vs zs) (g us ws)
variable {g:List Value->List Value->List Value}{gV:List V->List V->List V}
end
structure FnScope (N P:List Str)(sc:Scope):Prop where
 kind:sc.kind=.function
 co:sc.isCoroutine=false
 gen:sc.isGenerator=false
 nd:N.Nodup
 pre:N.take P.length=P
 par:∀x∈P,sc.names.lookup x=some .local∨sc.names.lookup x=some .cell
 nofree:∀y∈sc.names,y.2≠.free
theorem lw {kindOf:Str->Option NameKind}{x:Str}:∀{binds:List (Str×Value)}{m:Str->Option Value},(∀v,(x,v)∉binds)->bindL kindOf binds m x=m x
 |[],_,_=>rfl
 | (n,v)::r,m,h=>by
  unfold bindL;rw[lw fun w hw=>h w (mem_cons_of_mem _ hw)];split
  ·have:x≠n:=by rintro rfl;exact h v mem_cons_self
   simp[this]
  ·rfl
theorem lx {kindOf:Str->Option NameKind}{x:Str}:∀{binds:List (Str×Value)}{m:Str->Option Value},(∀v,(x,v)∉binds)->bindC kindOf binds m x=m x
 |[],_,_=>rfl
 | (n,v)::r,m,h=>by
  unfold bindC;rw[lx fun w hw=>h w (mem_cons_of_mem _ hw)];split
  ·rfl
  ·have:x≠n:=by rintro rfl;exact h v mem_cons_self
   simp[this]
theorem ly {kindOf:Str->Option NameKind}{x:Str}{v:Value}:∀{P:List Str}{vs:List Value}{i:Nat}{m:Str->Option Value},P.Nodup->P[i]?=some x->vs[i]?=some v->kindOf x=some .local ->
  bindL kindOf (P.zip vs) m x=some v
 |[],_,_,_,_,h,_,_=>by simp at h
 |_::_,[],_,_,_,_,h,_=>by simp at h
 |p::P,w::vs,0,m,nd,h1,h2,hk=>by simp at h1 h2;subst h1;subst h2;show bindL kindOf ((p,w)::P.zip vs) m p=_;unfold bindL;rw[lw fun v hv=>(nodup_cons.mp nd).1 (of_mem_zip hv).1,if_pos hk];simp
 |p::P,w::vs,i+1,m,nd,h1,h2,hk=>by show bindL kindOf ((p,w)::P.zip vs) m x=_;unfold bindL;exact ly (i:=i) (nodup_cons.mp nd).2 (by simpa using h1) (by simpa using h2) hk
theorem m5 {kindOf:Str->Option NameKind}{x:Str}{v:Value}:∀{P:List Str}{vs:List Value}{i:Nat}{m:Str->Option Value},P.Nodup->P[i]?=some x->vs[i]?=some v->kindOf x≠some .local ->
  bindC kindOf (P.zip vs) m x=some v
 |[],_,_,_,_,h,_,_=>by simp at h
 |_::_,[],_,_,_,_,h,_=>by simp at h
 |p::P,w::vs,0,m,nd,h1,h2,hk=>by simp at h1 h2;subst h1;subst h2;show bindC kindOf ((p,w)::P.zip vs) m p=_;unfold bindC;rw[lx fun v hv=>(nodup_cons.mp nd).1 (of_mem_zip hv).1,if_neg hk];simp
 |p::P,w::vs,i+1,m,nd,h1,h2,hk=>by show bindC kindOf ((p,w)::P.zip vs) m x=_;unfold bindC;exact m5 (i:=i) (nodup_cons.mp nd).2 (by simpa using h1) (by simpa using h2) hk
noncomputable def start (N:List Str)(vs:List V):St:=vs.map some++List.replicate (N.length - vs.length) none
noncomputable def cxOf (CX:CXT)(P:Program)(w:World)(K:W.Frag)(mg:Str->Option Value)(base:Heap)(N:List Str)(qual:Str)(scope:Scope)(f:Addr)(cd:Value)(A:Around)(outer:List Env)(s:Shared)(H:Hp)(E:XK):Cx where
 prog:=P
 w:=w
 K:=K
 mg:=mg
 base:=base
 A:=A.deeper (envOfC qual scope s.heap.objs.size f cd)
 N:=N
 s₀:=s
 H₀:=H
 env:=envOfC qual scope s.heap.objs.size f cd
 outer:=outer
 stack:=envOfC qual scope s.heap.objs.size f cd::outer
 ex:=[]
 calm:=true
 fn:=fun _=>true
 pn:=[]
 xe:=fun e s'=>wpAny (model P w) (A.deeper (envOfC qual scope s.heap.objs.size f cd)) (leaving (envOfC qual scope s.heap.objs.size f cd) e) (fun _ s''=>CX outer H s E e s'') (fun e' s''=>CX outer H s E e' s'') s'
theorem m6 {sc:Scope}{n:Nat}{x:Str}(h:sc.names.lookup x=some .cell):∃c,(cellsFrom n sc.names []).lookup x=some c:=by have q:=PySem.W.cellsFrom_some sc.names n [] (.inl h);exact Option.isSome_iff_exists.mp q
theorem vH {CX:CXT}{P:Program}{w:World}{K:W.Frag}{mg:Str->Option Value}{base:Heap}{N ps:List Str}{qual:Str}{scope:Scope}{f:Addr}{cd:Value}{A:Around}{outer:List Env}{s s1:Shared}{H:Hp}{E:XK}{us:List Value}{vs:List V}
  (S:FnScope N ps scope) (hd:A.handled=none) (e0:Env0 P w K mg base A outer s H) (hl:vs.length=ps.length) (r:Vals vs us)
  (x:InCallC s s.heap.objs.size (bindL (envOfC qual scope s.heap.objs.size f cd).kindOf (ps.zip us) fun _=>none) (cellsFrom (s.heap.objs.size+1) scope.names []) (bindC (envOfC qual scope s.heap.objs.size f cd).kindOf (ps.zip us) fun _=>none) s1) :
  Inv (cxOf CX P w K mg base N qual scope f cd A outer s H E) [] (start N vs) H s1:=by
 have ld:ps.length≤N.length:=by have:=congrArg List.length S.pre;rw[length_take] at this;lia
 obtain⟨h1,tk,rfl,hk⟩:=x.done;have ad:∀b:Addr,b∉(cxOf CX P w K mg base N qual scope f cd A outer s H E).ex:=fun b z=>absurd (show b∈([]:List Addr) from z) (by simp);refine⟨⟨e0.mod,S.kind,rfl,rfl,Nat.le_refl _,fun y z c h1 h2=>?_,fun y hy=>?_,fun y c _ h=>?_,fun _=>hd,Around.frames_deeper e0.frames,.inr ⟨rfl,rfl⟩,fun b z=>absurd z (ad b),e0.bs,e0.bsz,fun b _ _=>ad b,fun b z=>absurd z (ad b),e0.funs,e0.frf⟩,
  rfl,e0.bare,Un.kept hk,⟨_,x.toInCall.ns,fun i y v h1 h2 h3=>?_⟩,fun y c h=>⟨_,x.cell y c h⟩,e0.hok.fresh (Nat.le_refl _),fun y c h=>?_,fun p hp=>absurd (show p∈([]:List (Addr×Obj)) from hp) (by simp),e0.hok.kept hk,?_⟩
 ·exact name_of_addr x.apart (PySem.mem_of_lookup h1) (PySem.mem_of_lookup h2)
 ·have hy:scope.names.lookup y=some .cell∨scope.names.lookup y=some .free:=hy;rcases hy with hy|hy
  ·exact m6 hy
  ·exact absurd rfl (S.nofree _ (PySem.mem_of_lookup hy))
 ·exact Nat.le_of_lt (x.above y c (PySem.mem_of_lookup h))
 ·have hi:i < vs.length:=by
   unfold start at h2;by_cases hi:i < vs.length
   ·exact hi
   ·rw[List.getElem?_append_right (by simpa using hi)] at h2;rw[List.getElem?_replicate] at h2;split at h2 <;> cases h2
  have ha:vs[i]?=some v:=by
   unfold start at h2;rw[List.getElem?_append_left (by simpa using hi),List.getElem?_map] at h2;cases e:vs[i]? with
   |none=>rw[e] at h2;cases h2
   |some a=>rw[e] at h2;cases h2;rfl
  obtain⟨u,hu,rv⟩:=r.get ha;have hp:ps[i]?=some y:=by rw[<- S.pre,List.getElem?_take_of_lt (by lia)];exact h1
  have dl:ps.Nodup:=by rw[<- S.pre];exact S.nd.sublist (List.take_sublist _ _)
  refine⟨u,rv,?_⟩;rcases S.par y (mem_of_getElem? hp) with k|k
  ·exact .inl ⟨k,ly dl hp hu k⟩
  ·obtain⟨c,e⟩:=m6 (n:=s.heap.objs.size+1) k;refine .inr ⟨.inl k,c,e,?_⟩;have q:=x.cell y c e;rw[m5 dl hp hu (by show scope.names.lookup y≠_;rw[k];decide)] at q;exact q
 ·exact e0.hok.fresh (Nat.le_of_lt (x.above y c (PySem.mem_of_lookup h)))
 ·unfold start;show _=N.length;rw[length_append,length_map,List.length_replicate];lia
theorem m7 {CX:CXT}{P:Program}{w:World}{K:W.Frag}{mg:Str->Option Value}{base:Heap}{k:Nat}{f:Addr}{name qual:Str}{params:Arguments}{body:List Stmt}{scope:Scope}{dV kV doc pm cdv ct oc:Value}{an od:Option Addr}
  {osl:Array (Option Value)}{N ps:List Str}{sp:Sp} (lk:K.lookup f=some ⟨oc,od,.func (PySem.W.fnOf name qual params body scope dV kV doc pm an cdv ct),osl⟩) (hcd:PySem.W.codeIn K cdv qual=true) (S:FnScope N ps scope)
  (len:∀vs H Q E,sp vs H Q E->vs.length=ps.length)
  (hbody:∀(A:Around) (outer:List Env) (s:Shared) (H:Hp) (vs:List V) (Q:VK) (E:XK),Room k (A.deeper (envOfC qual scope s.heap.objs.size f cdv))->sp vs H Q E ->
   ∃t,PSs (cxOf CX P w K mg base N qual scope f cdv A outer s H E) body t∧t {nx:=fun _ H'=>Q .non H',rt:=Q} (start N vs) H) :
  FnOk P w K mg base CX (k+1) f (PySem.W.fnOf name qual params body scope dV kV doc pm an cdv ct) ps sp:=by
 refine⟨len,fun A outer s H BT us vs Q E hr e0 hb r dl=>?_⟩;have hl:=len _ _ _ _ dl;have KX:K.In s.heap:=e0.mod.kin.keeps fun b o e=>(e0.bs b o e).1;have mt:s.heap.NoLimit:=e0.mod.nolimit.keeps fun b o e=>(e0.bs b o e).1;have ad:∀y∈ps.zip us,scope.names.lookup y.1=some .local∨(scope.names.lookup y.1=some .cell∧((cellsFrom (s.heap.objs.size+1) scope.names []).lookup y.1).isSome=true):=fun⟨n,v⟩ hy=>by
  rcases S.par n (of_mem_zip hy).1 with q|q
  ·exact .inl q
  ·exact .inr ⟨q,PySem.W.cellsFrom_some _ _ _ (.inl q)⟩
 refine codeAny_call_function hr.depth (KX _ _ lk) rfl S.co S.gen rfl (PySem.W.codeRec_of KX hcd) (hb _ _ _ _ ?_);refine wpAny_newFunctionEnv_cells S.kind ad fun Cl he s1 x=>?_;subst he;refine⟨mt.keeps x.toInCall.keep,codeAny_func ?_⟩;obtain⟨t,ht,hq⟩:=hbody A outer s H vs Q E (hr.deeper _) dl;have I:Inv (cxOf CX P w K mg base N qual scope f cdv A outer s H E) [] (start N vs) H s1:=vH S hr.hd e0 hl r x;refine wpAny_mono (ht [] s1 (start N vs) H _ I hq) (fun fl s' hs=>?_) fun e s' hs=>hs;have ld:∀{σ':St}{H':Hp}{v:V}{u:Value},Inv (cxOf CX P w K mg base N qual scope f cdv A outer s H E) [] σ' H' s'->RelV v u->Q v H'->CE outer P w H s Q u s':=
  fun {σ' H' v u} J rv q=>⟨v,H',J.os,J.bare,J.base,J.hok,rv,q⟩
 cases fl with
 |ret u=>obtain⟨v,σ',H',J,rv,q⟩:=hs;exact ld J rv q
 |next=>obtain⟨σ',H',J,q⟩:=hs;exact ld (v:=V.non) (u:=Value.none) J rfl q
 |brk=>obtain⟨_,_,_,q⟩:=hs;exact False.elim q
 |cont=>obtain⟨_,_,_,q⟩:=hs;exact False.elim q
section
variable {X:Cx}{x:Str}{p pos:Pos}{e:Expr}{es:List Expr}{t:TA}{id T:String}{r:List V->Hp->VK->Prop}
noncomputable def tCB (r:List V->Hp->VK->Prop)(t:TA):TE:=fun σ H Q=>t σ H fun vs H1=>r vs H1 Q
theorem aP (hc:CallR X (.builtin id) r)(hg:Gl X x)(hm:X.mg x=none)(hv:bootBuiltins x=some (.builtin id))(ha:PA X (e::es) t)(hn:x ≠ "__name__" := by decide)(hdb:(x == ("__debug__" : Str))=false:=by decide)
  (he:starEach (e::es) X.env=(false,eval e X.env)::starEach es X.env:=by rfl) (hpl:(backTo pos (starEach es X.env)).any (·.1)=false:=by rfl):PE X (.Call (.Name x p) (e::es) [] pos) (tCB r t):=by
 intro pins s σ H Q I h;refine wpAny_Call_Name_kw (bt I hg hm hv ?_ hn hdb);exact PyProof.Rows.callWith_builtin1 (thn (ha pos pins s σ H _ I h) fun us s1 ⟨vs,H1,I1,r1,q1⟩=>hc pins s1 σ H1 vs us Q I1 r1 q1) he hpl
theorem bD (hc:CallR X (.type T) r)(hg:Gl X x)(hm:X.mg x=none)(hv:bootBuiltins x=some (.type T))(ha:PA X (e::es) t)(hn:x ≠ "__name__" := by decide)(hdb:(x == ("__debug__" : Str))=false:=by decide)
  (he:starEach (e::es) X.env=(false,eval e X.env)::starEach es X.env:=by rfl) (hpl:(backTo pos (starEach es X.env)).any (·.1)=false:=by rfl):PE X (.Call (.Name x p) (e::es) [] pos) (tCB r t):=by
 intro pins s σ H Q I h;refine wpAny_Call_Name_kw (bt I hg hm hv ?_ hn hdb);exact PyProof.Rows.callWith_type1 (thn (ha pos pins s σ H _ I h) fun us s1 ⟨vs,H1,I1,r1,q1⟩=>hc pins s1 σ H1 vs us Q I1 r1 q1) he hpl
end
end L2
namespace HT
open PySem PyProof.Rows
noncomputable def lexLt:List Int->List Int->Bool
 |[],[]=>false
 |[],_::_=>true
 |_::_,[]=>false
 |x::xs,y::ys=>if x=y then lexLt xs ys else decide (x < y)
section
open PySem.SeqAt
open PySem.AutoSeq1 (wpAny_loadPart')
open PySem.MeetsSeq PySem.MeetsSeq2 PySem.MeetsSeq3
end
section
variable {prog:Program}{w:World}{A:Around}{E:Value->Shared->Prop}{s:Shared}
theorem cat_tup {t b:Addr}{vs ws:List Value}{Q:Value->Shared->Prop}(ht:IsTup s.heap t vs.toArray)(hb:IsTup s.heap b ws.toArray)(hv:vs≠[])
  (h1:ws=[]->Q (.ref t) s) (h2:ws≠[]->Q (.ref s.heap.objs.size) {s with heap:=s.heap.push {cls:=.type "tuple",data:=.seq (vs++ws).toArray} })
  (hsz:vs.length+ws.length≤sizeLine):wpAny (model prog w) A (binaryOp .Add (.ref t) (.ref b)) Q E s:=by
 obtain⟨⟨cls,dd,data,sl⟩,ho,hc,n,hd⟩:=id ht;obtain⟨⟨Fn,BT,Cl,dl⟩,ad,mt,n2,ld⟩:=id hb;simp only at hc hd mt ld;subst hc hd mt ld;have e:vs.toArray++ws.toArray=(vs++ws).toArray:=by simp
 by_cases hw:ws=[]
 ·exact concat_meets ⟨_,ho,rfl⟩ ⟨_,ad,rfl⟩ noFill_tuple_add seq_tuple_add PySem.F.slot_tuple_add PySem.F.entry_tuple_add (PySem.F.args_tuple_add_2 _ _)
   (tuple_addW1 t b vs.toArray ws.toArray n n2 dd BT sl dl (by simpa using hv) (by simp[hw])) ⟨ho,ad,h1 hw⟩
 ·refine concat_meets ⟨_,ho,rfl⟩ ⟨_,ad,rfl⟩ noFill_tuple_add seq_tuple_add PySem.F.slot_tuple_add PySem.F.entry_tuple_add (PySem.F.args_tuple_add_2 _ _)
   (tuple_addW2 t b vs.toArray ws.toArray n n2 dd BT sl dl (by simpa using hv) (by simpa using hw) (by rw[size_toArray,size_toArray];exact hsz)) ⟨ho,ad,?_⟩
  rw[e];exact h2 hw
noncomputable def sIx (n d:Nat):Option Int->Nat
 |none=>d
 |some v=>if v < 0 then (v+(n:Int)).toNat else min v.toNat n
theorem sIx_none (n d:Nat):sIx n d none=d:=rfl
theorem sIx_nat (n d k:Nat):sIx n d (some (k:Int))=min k n:=by show (if (k:Int) < 0 then ((k:Int)+(n:Int)).toNat else min (k:Int).toNat n)=min k n;rw[if_neg (by lia),Int.toNat_natCast]
theorem vI (n d:Nat)(hd:d≤n)(o:Option Int):sIx n d o≤n:=by
 cases o with
 |none=>exact hd
 |some v=>
  show (if v < 0 then (v+(n:Int)).toNat else min v.toNat n)≤n;by_cases hv:v < 0
  ·rw[if_pos hv];lia
  ·rw[if_neg hv];exact Nat.min_le_right _ _
theorem m8 (v:Int)(n d:Nat):(if v < 0 then max (v+(n:Int)) 0 else min v (n:Int))=((sIx n d (some v):Nat):Int):=by
 show (if v < 0 then max (v+(n:Int)) 0 else min v (n:Int))=(((if v < 0 then (v+(n:Int)).toNat else min v.toNat n):Nat):Int);by_cases hv:v < 0
 ·simp only[if_pos hv];lia
 ·simp only[if_neg hv];lia
theorem vJ (lo hi:Option Int)(n:Nat):Builtin.Slice.sliceAdjust lo hi 1 (n:Int)=(((sIx n 0 lo:Nat):Int),((sIx n n hi:Nat):Int)):=by
 have h1:¬ ((1:Int) < 0):=by lia
 unfold Builtin.Slice.sliceAdjust;simp only[h1,if_false];refine Prod.ext ?_ ?_
 ·cases lo with
  |none=>rfl
  |some v=>exact m8 v n 0
 ·cases hi with
  |none=>rfl
  |some v=>exact m8 v n n
theorem vK (i j:Nat):Builtin.Slice.slicePlaces (i:Int) (j:Int) 1=j - i:=by
 unfold Builtin.Slice.slicePlaces;have h1:(1:Int) > 0:=by lia
 simp only[h1,if_true,Int.ediv_one];split <;> lia
theorem m9 {v:Value}{o:Option Int}{Q:Option Int->Shared->Prop}(p:IsPart v o)(h:Q o s):wpAny (model prog w) A (Builtin.Slice.slicePartIndex v) Q E s:=by
 cases p with
 |none=>exact slicePart_none h
 |int i t=>exact slicePart_int h
theorem mB {sl:Addr}{vl vu:Value}{lo hi:Option Int}{n:Nat}{Q:Int×Int×Nat->Shared->Prop}(hs:s.heap.IsSliceOf sl vl vu .none)(pl:IsPart vl lo)(pu:IsPart vu hi)
  (h:Q (((sIx n 0 lo:Nat):Int),1,sIx n n hi - sIx n 0 lo) s):wpAny (model prog w) A (Builtin.Slice.sliceApplied (.ref sl) (pure (n:Int))) Q E s:=by
 obtain⟨os,ad,ld,dl⟩:=id hs;unfold Builtin.Slice.sliceApplied Builtin.Slice.sliceFields;refine wpAny_bind (wpAny_bind (wpAny_field ad dl (x:=vl) rfl (wpAny_bind (wpAny_field ad dl (x:=vu) rfl (wpAny_bind (wpAny_field ad dl (x:=.none) rfl (wpAny_pure ?_)))))));refine wpAny_bind (slicePart_none ?_);show wpAny _ _ (if ((1:Int) == 0)=true then _ else _) _ _ s;rw[if_neg (by decide)];refine wpAny_bind (m9 pl (wpAny_bind (m9 pu (wpAny_bind (wpAny_pure ?_)))));show wpAny _ _ (match Builtin.Slice.sliceAdjust lo hi 1 (n:Int) with|(lo,hi)=>pure (lo,(1:Int),Builtin.Slice.slicePlaces lo hi 1)) _ _ s;rw[vJ lo hi n];show wpAny _ _ (pure (((sIx n 0 lo:Nat):Int),(1:Int),Builtin.Slice.slicePlaces ((sIx n 0 lo:Nat):Int) ((sIx n n hi:Nat):Int) 1)) _ _ s;rw[vK];exact wpAny_pure h
theorem vL (xs:Array Value)(i k:Nat):((List.range k).filterMap fun (m:Nat)=>xs[((i:Int)+(m:Int) * 1).toNat]?).toArray=((xs.toList.drop i).take k).toArray:=by
 have e:(fun (m:Nat)=>xs[((i:Int)+(m:Int) * 1).toNat]?)=fun m=>xs[i+m]?:=by
  funext m
  have:((i:Int)+(m:Int) * 1).toNat=i+m:=by lia
  rw[this]
 rw[e];have:=pick_run xs i k;rw[List.filterMap_map] at this;have e2:((fun x=>xs[x]?) ∘ fun x=>i+x)=fun m=>xs[i+m]?:=rfl;rw[e2] at this;rw[this]
theorem getItem_tuple_cut {t sl:Addr}{items:Array Value}{vl vu:Value}{lo hi:Option Int}{Q:Value->Shared->Prop}(ht:IsTup s.heap t items)(hs:s.heap.IsSliceOf sl vl vu .none)(pl:IsPart vl lo)(pu:IsPart vu hi)
  (hw:¬ (sIx items.size 0 lo=0∧sIx items.size items.size hi=items.size))
  (h:Q (.ref s.heap.objs.size) {s with heap:=s.heap.push {cls:=.type "tuple",data:=.seq ((items.toList.drop (sIx items.size 0 lo)).take (sIx items.size items.size hi - sIx items.size 0 lo)).toArray} })
  (hsz:items.size≤sizeLine):wpAny (model prog w) A (getItem (.ref t) (.ref sl)) Q E s:=by
 have ad:sizeOk (.seq ((items.toList.drop (sIx items.size 0 lo)).take (sIx items.size items.size hi - sIx items.size 0 lo)).toArray):=by show ((items.toList.drop (sIx items.size 0 lo)).take (sIx items.size items.size hi - sIx items.size 0 lo)).toArray.size≤sizeLine;rw[size_toArray,length_take,length_drop,Array.length_toList];lia
 have hj:sIx items.size items.size hi≤items.size:=vI _ _ (Nat.le_refl _) hi;obtain⟨os,dl,mt,Cl⟩:=id hs;have BT:s.TypeIs (.ref sl) "slice" := ⟨os,dl,mt⟩;unfold getItem;try with_reducible refine wpAny_holding ?_
 first|refine wpAny_bind (wpAny_pure ?_)|skip
 refine wpAny_bind (wpAny_sequenceKey ht.typeIs (by decide) ?_);refine wpAny_bind (wpAny_callSpecial?_slot (name:=Str.ofString "__getitem__") ht.typeIs PyProof.Rows.slot_tuple_getitem
  (wpAny_call_entry PyProof.Rows.slot_tuple_getitem ht.typeIs entry_tuple_getitem ?_ (args_tuple_getitem _ _)))
 show wpAny _ _ (Builtin.Tuple.tupleItemsOf (.ref t) >>= _) _ _ s;refine wpAny_bind (tupleItemsOf_ ht ?_);refine wpAny_bind (wpAny_typeOf BT ?_);rw[if_pos (by decide)];refine wpAny_bind (mB hs pl pu ?_);have ld:¬ ((((sIx items.size 0 lo:Nat):Int) == 0 && (1:Int) == 1 && (sIx items.size items.size hi - sIx items.size 0 lo) == items.size)=true):=by intro q;rw[Bool.and_eq_true,Bool.and_eq_true] at q;have q1:((sIx items.size 0 lo:Nat):Int)=0:=eq_of_beq q.1.1;have q2:sIx items.size items.size hi - sIx items.size 0 lo=items.size:=eq_of_beq q.2;exact hw ⟨by lia,by lia⟩
 show wpAny _ _ (if (((sIx items.size 0 lo:Nat):Int) == 0 && (1:Int) == 1 && (sIx items.size items.size hi - sIx items.size 0 lo) == items.size)=true then _ else _) _ _ s;rw[if_neg ld,vL];first
  |exact wpAny_bind (m:=Builtin.Tuple.tupleExact _) (wpAny_newObj_type (wpAny_pure ⟨_,rfl,wpAny_pure h⟩) ad)
  |exact wpAny_bind (m:=Builtin.Tuple.tupleExact _) (wpAny_newObj_type (wpAny_bind (wpAny_pure (wpAny_pure ⟨_,rfl,wpAny_pure h⟩))) ad)
  |exact wpAny_bind (wpAny_bind (m:=Builtin.Tuple.tupleExact _) (wpAny_newObj_type (wpAny_pure (wpAny_pure ⟨_,rfl,wpAny_pure h⟩)) ad))
  |exact wpAny_bind (wpAny_bind (m:=Builtin.Tuple.tupleExact _) (wpAny_newObj_type (wpAny_pure ⟨_,rfl,wpAny_pure h⟩) ad))
end
end HT
namespace L2
open PySem PySem.Spec PyProof.Rows
noncomputable abbrev TO:=St->Hp->(Option Int->Hp->Prop)->Prop
noncomputable def PO (X:Cx)(e:Option Expr)(t:TO):Prop:=
 ∀(pins:List (Addr×Obj)) (s:Shared) (σ:St) (H:Hp) (Q:Option Int->Hp->Prop),Inv X pins σ H s->t σ H Q ->
  wpAny (model X.prog X.w) X.A (evalPart e X.env) (fun u s'=>∃o H',Inv X pins σ H' s'∧IsPart u o∧Q o H') X.xe s
noncomputable def tNoPart:TO:=fun _ H Q=>Q none H
noncomputable def tPart (t:TE):TO:=fun σ H Q=>t σ H fun x H1=>∃i,x=.int i∧Q (some i) H1
section
variable {X:Cx}{e:Expr}{te:TE}{lo hi:Option Expr}{tl th:TO}{pos p2:Pos}
theorem b9:PO X none tNoPart:=by intro pins s σ H Q I h;rw[evalPart_none];exact wpAny_pure ⟨none,H,I,.none,h⟩
theorem au (h:PE X e te):PO X (some e) (tPart te):=by intro pins s σ H Q I hw;rw[evalPart_some];refine thn (h pins s σ H _ I hw) fun u s1 W'=>?_;obtain⟨x,H1,I1,r1,q1⟩:=W';obtain⟨i,rfl,q⟩:=q1;obtain⟨t,rfl⟩:=r1;exact⟨some i,H1,I1,.int i t,q⟩
noncomputable def SlR (X:Cx)(r:V->Option Int->Option Int->Hp->VK->Prop):Prop:=
 ∀(pins:List (Addr×Obj)) (s:Shared) (σ:St) (H:Hp) (x:V) (v vl vu:Value) (lo hi:Option Int) (sl:Addr) (Q:VK),Inv X pins σ H s->RelV x v->s.heap.IsSliceOf sl vl vu .none->IsPart vl lo->IsPart vu hi->r x lo hi H Q ->
  ∃T id,typeLookup (.type T) "__getitem__"=pure (some (.builtin id))∧s.TypeIs v T∧wpAny (model X.prog X.w) X.A (getItem v (.ref sl)) (EP X pins σ Q) X.xe s
theorem SlR.or {r r':V->Option Int->Option Int->Hp->VK->Prop}(h:SlR X r)(h':SlR X r'):SlR X (fun x lo hi H Q=>r x lo hi H Q∨r' x lo hi H Q):=by
 intro pins s σ H x v vl vu lo hi sl Q I rx hs pl pu q;rcases q with q|q
 ·exact h pins s σ H x v vl vu lo hi sl Q I rx hs pl pu q
 ·exact h' pins s σ H x v vl vu lo hi sl Q I rx hs pl pu q
noncomputable def tSl (r:V->Option Int->Option Int->Hp->VK->Prop)(te:TE)(tl th:TO):TE:=fun σ H Q=>te σ H fun x H1=>tl σ H1 fun l H2=>th σ H2 fun u H3=>r x l u H3 Q
theorem ay {r:V->Option Int->Option Int->Hp->VK->Prop}(hr:SlR X r)(he:PE X e te)(hl:PO X lo tl)(hu:PO X hi th):PE X (.Subscript e (.Slice lo hi none p2) pos) (tSl r te tl th):=by intro ad s σ H Q I h;refine Subscript_ (thn (he ad s σ H _ I h) fun v s1 W'=>?_);obtain⟨x,H1,I1,r1,q1⟩:=W';refine wpAny_Slice (thn (hl ad s1 σ H1 _ I1 q1) fun vl s2 ⟨l,H2,I2,pl,q2⟩=>thn (hu ad s2 σ H2 _ I2 q2) fun vu s3 W'=>?_);obtain⟨u,H3,I3,pu,q3⟩:=W';rw[evalPart_none];refine wpAny_pure ?_;have I4:Inv X ad σ H3 {s3 with heap:=s3.heap.push {cls:=.type "slice",data:=.fields #[vl,vu,.none]} }:=I3.kept (t':=s3.toks) fun b ob q=>Heap.get?_push_of_some _ q;obtain⟨T,id,hT,ht,hg⟩:=hr ad {s3 with heap:=s3.heap.push {cls:=.type "slice",data:=.fields #[vl,vu,.none]} } σ H3 x v vl vu l u s3.heap.objs.size Q I4 r1 (Heap.IsSliceOf.new ..) pl pu q3;show wpAny (model X.prog X.w) X.A (subscriptTail e (.Slice lo hi none p2) v (.ref s3.heap.objs.size)) (EP X ad σ Q) X.xe {s3 with heap:=s3.heap.push {cls:=.type "slice",data:=.fields #[vl,vu,.none]} };exact tail_any (ops:=[.ref s3.heap.objs.size,v]) ht hT hg (by with_unfolding_all rfl)
noncomputable def cutV (xs:List V)(lo hi:Option Int):List V:=(xs.drop (HT.sIx xs.length 0 lo)).take (HT.sIx xs.length xs.length hi - HT.sIx xs.length 0 lo)
theorem mC (xs:List V)(lo hi:Option Int):(cutV xs lo hi).length≤xs.length:=by unfold cutV;rw[length_take,length_drop];lia
noncomputable def rSlT (K:W.Frag):V->Option Int->Option Int->Hp->VK->Prop:=fun x lo hi H Q=>∃a xs,x=.ref a∧SqT K H a xs ∧
 ¬ (HT.sIx xs.length 0 lo=0∧HT.sIx xs.length xs.length hi=xs.length)∧∀p,H p=none->Q (.ref p) (upd H p (.tup (cutV xs lo hi)))
theorem vM:SlR X (rSlT X.K):=by
 intro dl s σ H x v vl vu lo hi sl Q I rx hs pl pu h;obtain⟨a,xs,rfl,hx,hw,q⟩:=h;cases rx;obtain⟨ld,r,ht,hz⟩:=I.tuple hx;have ad:ld.toArray.size=xs.length:=by rw[size_toArray];exact r.length.symm
 refine⟨"tuple",_,PyProof.Rows.slot_tuple_getitem.lookup,ht.typeIs,?_⟩;refine HT.getItem_tuple_cut ht hs pl pu (by rw[ad];exact hw) ?_ (by rw[ad];exact hz);rw[ad];refine⟨.ref s.heap.objs.size,_,I.laid (t':=s.toks) (o:=.tup (cutV xs lo hi)) (fun b ob q=>Heap.get?_push_of_some _ q) (Nat.le_refl _) ?_,rfl,q _ (I.hok.fresh (Nat.le_refl _))⟩;exact⟨Nat.le_trans (mC xs lo hi) hz,_,(r.drop (HT.sIx xs.length 0 lo)).take (HT.sIx xs.length xs.length hi - HT.sIx xs.length 0 lo),IsTup.new _ _⟩
noncomputable def rCatT (K:W.Frag):R2:=fun x y H Q=>∃a b xs ys,x=.ref a∧y=.ref b∧SqT K H a xs∧SqT K H b ys∧xs≠[]∧xs.length+ys.length≤sizeLine ∧
 (ys=[]->Q (.ref a) H)∧(ys≠[]->∀p,H p=none->Q (.ref p) (upd H p (.tup (xs++ys))))
theorem Vals.nil_iff {xs:List V}{us:List Value}(r:Vals xs us):us=[]↔xs=[]:=by
 cases r with
 |nil=>simp
 |cons _ _=>simp
theorem vN:OpR X (binaryOp .Add) (rCatT X.K):=by intro ad s σ H x y v u Q I rx ry h;obtain⟨a,b,xs,ys,rfl,rfl,ha,hb,hx,hz,q1,q2⟩:=h;cases rx;cases ry;obtain⟨ld,r1,p1,_⟩:=I.tuple ha;obtain⟨dl,r2,p2,_⟩:=I.tuple hb;refine HT.cat_tup p1 p2 (fun z=>hx (r1.nil_iff.mp z)) (fun z=>⟨.ref a,H,I,rfl,q1 (r2.nil_iff.mp z)⟩) (fun z=>?_) (by rw[<- r1.length,<- r2.length];exact hz);refine⟨.ref s.heap.objs.size,_,I.laid (t':=s.toks) (o:=.tup (xs++ys)) (fun b ob q=>Heap.get?_push_of_some _ q) (Nat.le_refl _) ?_,rfl,q2 (fun w=>z (r2.nil_iff.mpr w)) _ (I.hok.fresh (Nat.le_refl _))⟩;exact⟨by rw[length_append];exact hz,_,r1.append r2,IsTup.new _ _⟩
end
noncomputable def ixN (n:Nat)(i:Int):Option Nat:=if 0≤i then (if i < n then some i.toNat else none) else if -(n:Int)≤i then some (i+n).toNat else none
noncomputable def atI {α:Type}(xs:List α)(i:Int):Option α:=(ixN xs.length i).bind fun j=>xs[j]?
theorem vO {n:Nat}{i:Int}{j:Nat}(h:ixN n i=some j):seqIndex? i n=some j∧j < n∧-(n:Int)≤i∧i < n:=by
 unfold ixN at h;by_cases h0:0≤i
 ·rw[if_pos h0] at h;by_cases h1:i < n
  ·rw[if_pos h1] at h;have e:i.toNat=j:=Option.some.inj h;exact⟨by rw[seqIndex_of h0 h1,e],by lia,by lia,h1⟩
  ·rw[if_neg h1] at h;cases h
 ·rw[if_neg h0] at h;by_cases h1:-(n:Int)≤i
  ·rw[if_pos h1] at h;have e:(i+n).toNat=j:=Option.some.inj h;exact⟨by rw[seqIndex_neg (by lia) h1,e],by lia,h1,by lia⟩
  ·rw[if_neg h1] at h;cases h
theorem il {α:Type}{xs:List α}{i:Int}{v:α}(h:atI xs i=some v):∃j,seqIndex? i xs.length=some j∧xs[j]?=some v∧j < xs.length∧-(xs.length:Int)≤i∧i < xs.length:=by
 unfold atI at h;cases e:ixN xs.length i with
 |none=>rw[e] at h;cases h
 |some j=>rw[e] at h;obtain⟨h1,h2,h3,h4⟩:=vO e;exact⟨j,h1,h,h2,h3,h4⟩
theorem aG {α:Type}{xs:List α}{j:Nat}{v:α}(h:xs[j]?=some v):atI xs (j:Int)=some v:=by
 have hj:j < xs.length:=(List.getElem?_eq_some_iff.mp h).1;have e:ixN xs.length (j:Int)=some j:=by unfold ixN;rw[if_pos (by lia),if_pos (by lia)];simp
 unfold atI;rw[e];exact h
noncomputable def PlainIx (b:Expr):Prop:=∀o i,subscripted b false o i=operate [o,i] (getItem o i)
noncomputable def IxR (X:Cx)(r:R2):Prop:=
 ∀(value slice:Expr) (pins:List (Addr×Obj)) (s:Shared) (σ:St) (H:Hp) (x y:V) (v u:Value) (Q:VK),Inv X pins σ H s->RelV x v->RelV y u->r x y H Q ->
  subscripted slice false v u=operate [v,u] (getItem v u)->wpAny (model X.prog X.w) X.A (subscriptTail value slice v u) (EP X pins σ Q) X.xe s
noncomputable def MtR (X:Cx)(id:String)(r:V->List V->Hp->VK->Prop):Prop:=
 ∀(pins:List (Addr×Obj)) (s:Shared) (σ:St) (H:Hp) (x:V) (xs:List V) (v:Value) (us:List Value) (Q:VK),Inv X pins σ H s->RelV x v->Vals xs us->r x xs H Q ->
  wpAny (model X.prog X.w) X.A (call (.builtin id) (v::us)) (EP X pins σ Q) X.xe s
section
variable {X:Cx}{a b:Expr}{ta tb:TE}{pos:Pos}
theorem IxR.or {r r':R2}(h:IxR X r)(h':IxR X r'):IxR X (fun x y H Q=>r x y H Q∨r' x y H Q):=by
 intro value slice pins s σ H x y v u Q I rx ry q hs;rcases q with q|q
 ·exact h value slice pins s σ H x y v u Q I rx ry q hs
 ·exact h' value slice pins s σ H x y v u Q I rx ry q hs
theorem vP {r:R2}(hr:IxR X r)(ha:PE X a ta)(hb:PE X b tb)(hs:PlainIx b):PE X (.Subscript a b pos) (tOp r ta tb):=by intro pins s σ H Q I h;exact Subscript_ (binT ha hb I h fun v u s2 x y H2 I2 rx ry q=>hr a b pins s2 σ H2 x y v u Q I2 rx ry q (hs _ _))
noncomputable def rIxL (K:W.Frag):R2:=fun x y H Q=>∃p xs i v,x=.ref p∧y=.int i∧SqL K H p xs∧atI xs i=some v∧Q v H
noncomputable def rIxT (K:W.Frag):R2:=fun x y H Q=>∃p xs i v,x=.ref p∧y=.int i∧SqT K H p xs∧atI xs i=some v∧Q v H
noncomputable def rIxS:R2:=fun x y H Q=>∃z i c,x=.str z∧y=.int i∧z.length≤sizeLine∧atI z.cps.toList i=some c∧Q (.str ⟨#[c]⟩) H
theorem vQ:IxR X (rIxL X.K):=by
 intro dl ld ad s σ H x y v u Q I rx ry h hs;obtain⟨p,xs,i,z,rfl,rfl,hq,he,q⟩:=h;cases rx;obtain⟨t,rfl⟩:=ry;obtain⟨Cl,r,pl,hz⟩:=I.list hq;obtain⟨j,h1,h2,h3,h4,h5⟩:=il he;obtain⟨w,ew,BT⟩:=r.get h2;have hl:=r.length;have hn:=line63;have mt:EP X ad σ Q w s:=⟨z,H,I,BT,q⟩;by_cases h0:0≤i
 ·have hj:i.toNat=j:=by
   rw[seqIndex_of h0 h5] at h1;exact Option.some.inj h1
  exact item_listR pl.isList h0 (by lia) (by rw[hj];simpa using ew) mt hs
 ·have hj:(i+(Cl.toArray.size:Int)).toNat=j:=by
   rw[seqIndex_neg (by lia) h4] at h1;rw[size_toArray,<- hl];exact Option.some.inj h1
  exact subscriptTail_builtinR (x:=w) pl.isList.typeIs slot_list_getitem.lookup
   (wpAny_getItem_list_neg (Q:=fun r s'=>r=w∧EP X ad σ Q r s') pl.isList (by lia) (by rw[size_toArray] <;> lia) (by lia) (by rw[hj];simpa using ew) ⟨rfl,mt⟩) hs
theorem vR:IxR X (rIxT X.K):=by
 intro dl ld ad s σ H x y v u Q I rx ry h hs;obtain⟨p,xs,i,z,rfl,rfl,hq,he,q⟩:=h;cases rx;obtain⟨t,rfl⟩:=ry;obtain⟨Cl,r,pl,hz⟩:=I.tuple hq;obtain⟨j,h1,h2,h3,h4,h5⟩:=il he;obtain⟨w,ew,mt⟩:=r.get h2;have hl:=r.length;have hn:=line63;have BT:EP X ad σ Q w s:=⟨z,H,I,mt,q⟩;exact subscriptTail_builtinR (x:=w) pl.typeIs slot_tuple_getitem.lookup
  (getItem_tuple (j:=j) (Q:=fun r s'=>r=w∧EP X ad σ Q r s') pl (by lia) (by lia) (by rw[size_toArray,<- hl];exact h1) (by simpa using ew) ⟨rfl,BT⟩) hs
theorem vS:IxR X rIxS:=by
 intro ad dl ld s σ H x y v u Q I rx ry h hs;obtain⟨z,i,c,rfl,rfl,hz,he,q⟩:=h;obtain⟨t,rfl⟩:=rx;obtain⟨t',rfl⟩:=ry;obtain⟨j,h1,h2,h3,h4,h5⟩:=il he;have hl:z.cps.toList.length=z.length:=by simp[Str.length]
 rw[hl] at h1 h4 h5;have hn:=line63;exact tail_any (typeIs_str s z t) slot_str_getitem.lookup (getItem_str (c:=c) (by have e1:decide (i < -(2 ^ 63:Int))=false:=decide_eq_false (by lia);have e2:decide (i ≥ 2 ^ 63)=false:=decide_eq_false (by lia);rw[e1,e2,Bool.or_false]) (by rw[h1];simpa using h2) ⟨.str ⟨#[c]⟩,H,I.tok _,⟨_,rfl⟩,q⟩) hs
noncomputable def rIx (K:W.Frag):R2:=fun x y H Q=>rIxL K x y H Q∨rIxT K x y H Q∨rIxS x y H Q
theorem vT:IxR X (rIx X.K):=vQ.or (vR.or vS)
noncomputable def rSetL:V->V->V->Hp->(Hp->Prop)->Prop:=fun o i v H Q=>∃p xs k j,o=.ref p∧i=.int k∧H p=some (.lst xs)∧ixN xs.length k=some j∧Q (upd H p (.lst (xs.set j v)))
theorem vU (lo hi:Option Int)(n:Nat):(sliceBounds lo hi none n).1=((HT.sIx n 0 lo:Nat):Int)∧(sliceBounds lo hi none n).2.1=((HT.sIx n n hi:Nat):Int)∧(sliceBounds lo hi none n).2.2=1:=by
 refine⟨?_,?_,rfl⟩
 ·cases lo with
  |none=>simp[sliceBounds,HT.sIx]
  |some i=>
   simp only[sliceBounds,HT.sIx,Option.getD_none,show (1:Int) > 0 by decide,if_true];by_cases h:i < 0
   ·simp only[h,if_true] <;> lia
   ·simp only[h,if_false] <;> lia
 ·cases hi with
  |none=>simp[sliceBounds,HT.sIx]
  |some i=>
   simp only[sliceBounds,HT.sIx,Option.getD_none,show (1:Int) > 0 by decide,if_true];by_cases h:i < 0
   ·simp only[h,if_true] <;> lia
   ·simp only[h,if_false] <;> lia
theorem vV (its:List Value)(lo hi:Option Int):slicePick its.toArray lo hi none=((its.drop (HT.sIx its.length 0 lo)).take (HT.sIx its.length its.length hi - HT.sIx its.length 0 lo)).toArray:=by obtain⟨h1,h2,h3⟩:=vU lo hi its.toArray.size;unfold slicePick;rw[h1,h2,h3];simp only[sliceRange_one,pick_run,size_toArray] <;> rfl
noncomputable def rSlL (K:W.Frag):V->Option Int->Option Int->Hp->VK->Prop:=fun x lo hi H Q=>∃a xs,x=.ref a∧SqL K H a xs∧∀p,H p=none->Q (.ref p) (upd H p (.lst (cutV xs lo hi)))
theorem mD:SlR X (rSlL X.K):=by
 intro ad s σ H x v vl vu lo hi sl Q I rx hs pl pu h;obtain⟨a,xs,rfl,hx,q⟩:=h;cases rx;obtain⟨ld,r,ht,hz⟩:=I.list hx;have dl:=r.length;refine⟨"list",_,slot_list_getitem.lookup,ht.isList.typeIs,?_⟩;refine wpAny_getItem_list_slice ht.isList hs pl pu .none (by simp) ?_ (by rw[size_toArray] <;> lia)
 rw[vV,<- dl];refine⟨.ref s.heap.objs.size,_,I.laid (t':=s.toks) (o:=.lst (cutV xs lo hi)) (fun b ob q=>Heap.get?_push_of_some _ q) (Nat.le_refl _) ?_,rfl,q _ (I.hok.fresh (Nat.le_refl _))⟩;exact⟨Nat.le_trans (mC xs lo hi) hz,_,0,(r.drop (HT.sIx xs.length 0 lo)).take (HT.sIx xs.length xs.length hi - HT.sIx xs.length 0 lo),Heap.get?_push_size _ rfl⟩
noncomputable def flatV:V->Bool
 |.non=>true
 |.bl _=>true
 |.int _=>true
 |.str _=>true
 |_=>false
noncomputable def eqV:V->V->Bool
 |.non,.non=>true
 |.bl a,.bl b=>a == b
 |.bl a,.int b=>(if a then 1 else 0) == b
 |.int a,.bl b=>a == (if b then 1 else 0)
 |.int a,.int b=>a == b
 |.str a,.str b=>a == b
 |_,_=>false
theorem vW {A:Around}{s:Shared}{y x:V}{u v:Value}(ry:RelV y u)(rx:RelV x v)(fy:flatV y=true)(fx:flatV x=true):SeqAt.EqAt A s u v (eqV y x):=by
 cases y with
 |non=>
  cases ry;cases x with
  |non=>cases rx;exact SeqAt.EqAt.same _
  |bl b=>cases rx;exact SeqAt.EqAt.none_bool b
  |int b=>obtain⟨t,rfl⟩:=rx;exact SeqAt.EqAt.none_int b t
  |str b=>obtain⟨t,rfl⟩:=rx;exact SeqAt.EqAt.none_str b t
  |_=>exact absurd (show false=true from fx) Bool.false_ne_true
 |bl a=>
  cases ry;cases x with
  |non=>cases rx;exact SeqAt.EqAt.bool_none a
  |bl b=>cases rx;exact SeqAt.EqAt.bool_bool a b
  |int b=>obtain⟨t,rfl⟩:=rx;exact SeqAt.EqAt.bool_int a b t
  |str b=>obtain⟨t,rfl⟩:=rx;exact SeqAt.EqAt.bool_str a b t
  |_=>exact absurd (show false=true from fx) Bool.false_ne_true
 |int a=>
  obtain⟨t',rfl⟩:=ry;cases x with
  |non=>cases rx;exact SeqAt.EqAt.int_none a t'
  |bl b=>cases rx;exact SeqAt.EqAt.int_bool a t' b
  |int b=>obtain⟨t,rfl⟩:=rx;exact SeqAt.EqAt.int_int a t' b t
  |str b=>obtain⟨t,rfl⟩:=rx;exact SeqAt.EqAt.int_str a t' b t
  |_=>exact absurd (show false=true from fx) Bool.false_ne_true
 |str a=>
  obtain⟨t',rfl⟩:=ry;cases x with
  |non=>cases rx;exact SeqAt.EqAt.str_none a t'
  |bl b=>cases rx;exact SeqAt.EqAt.str_bool a t' b
  |int b=>obtain⟨t,rfl⟩:=rx;exact SeqAt.EqAt.str_int a t' b t
  |str b=>obtain⟨t,rfl⟩:=rx;exact SeqAt.EqAt.str_str a t' b t
  |_=>exact absurd (show false=true from fx) Bool.false_ne_true
 |_=>exact absurd (show false=true from fy) Bool.false_ne_true
noncomputable def eqU (x:V)(u:Value):Bool:=match u with
 |.none=>eqV .non x
 |.bool b=>eqV (.bl b) x
 |.int i _=>eqV (.int i) x
 |.str z _=>eqV (.str z) x
 |_=>false
theorem mE {x y:V}{u:Value}(r:RelV y u)(f:flatV y=true):eqU x u=eqV y x:=by
 cases y with
 |non=>cases r;rfl
 |bl b=>cases r;rfl
 |int i=>obtain⟨t,rfl⟩:=r;rfl
 |str z=>obtain⟨t,rfl⟩:=r;rfl
 |_=>exact absurd (show false=true from f) Bool.false_ne_true
theorem df {x:V}:∀{xs:List V}{us:List Value},Vals xs us->xs.all flatV=true->us.any (eqU x)=xs.any fun y=>eqV y x
 |_,_,.nil,_=>rfl
 |y::xs,u::us,.cons r t,f=>by rw[all_cons,Bool.and_eq_true] at f;rw[any_cons,any_cons,mE r f.1,df t f.2]
theorem dh {A:Around}{s:Shared}{x:V}{v:Value}(rx:RelV x v)(fx:flatV x=true):∀{xs:List V}{us:List Value},Vals xs us->xs.all flatV=true->∀u∈us,SeqAt.EqAt A s u v (eqU x u)
 |_,_,.nil,_=>fun u hu=>by cases hu
 |y::xs,u::us,.cons r t,f=>fun u' hu=>by
  rw[all_cons,Bool.and_eq_true] at f;rcases mem_cons.mp hu with rfl|hu
  ·rw[mE r f.1];exact vW r rx f.1 fx
  ·exact dh rx fx t f.2 u' hu
noncomputable def inV (x:V)(xs:List V):Bool:=xs.any fun y=>eqV y x
noncomputable def rIn (K:W.Frag)(neg:Bool):R2:=fun x y H Q=>∃p xs,y=.ref p∧(SqL K H p xs∨SqT K H p xs)∧flatV x=true∧xs.all flatV=true∧Q (.bl (if neg then !inV x xs else inV x xs)) H
theorem vX:OpR X (compareOp .In) (rIn X.K false):=by
 intro dl s σ H x y v u Q I rx ry h;obtain⟨p,xs,rfl,hq,fx,fs,q⟩:=h;cases ry;rcases hq with hq|hq
 ·obtain⟨ad,r,pl,hz⟩:=I.list hq;refine SeqAt.in_listAt (eqU x) pl.isList (fun w hw=>dh rx fx r fs w (by simpa using hw)) ⟨.bl _,H,I,rfl,?_⟩;rw[show ad.toArray.any (eqU x)=ad.any (eqU x) by simp,df r fs];exact q
 ·obtain⟨ad,r,pl,hz⟩:=I.tuple hq;refine SeqAt.in_tupleAt (eqU x) pl (fun w hw=>dh rx fx r fs w (by simpa using hw)) ⟨.bl _,H,I,rfl,?_⟩;rw[show ad.toArray.any (eqU x)=ad.any (eqU x) by simp,df r fs];exact q
theorem vY:OpR X (compareOp .NotIn) (rIn X.K true):=by
 intro dl s σ H x y v u Q I rx ry h;obtain⟨p,xs,rfl,hq,fx,fs,q⟩:=h;cases ry;rcases hq with hq|hq
 ·obtain⟨ad,r,pl,hz⟩:=I.list hq;refine SeqAt.notIn_listAt (eqU x) pl.isList (fun w hw=>dh rx fx r fs w (by simpa using hw)) ⟨.bl _,H,I,rfl,?_⟩;rw[show ad.toArray.any (eqU x)=ad.any (eqU x) by simp,df r fs];exact q
 ·obtain⟨ad,r,pl,hz⟩:=I.tuple hq;refine SeqAt.notIn_tupleAt (eqU x) pl (fun w hw=>dh rx fx r fs w (by simpa using hw)) ⟨.bl _,H,I,rfl,?_⟩;rw[show ad.toArray.any (eqU x)=ad.any (eqU x) by simp,df r fs];exact q
theorem vZ:CallR X (.builtin "len") (fun xs H Q=>∃p ys,xs=[.ref p]∧(SqL X.K H p ys∨SqT X.K H p ys)∧Q (.int ys.length) H):=by
 intro dl s σ H xs us Q I r h;obtain⟨p,ys,rfl,hq,q⟩:=h;obtain⟨u,rfl,rx⟩:=vals1 r;cases rx;have hn:=line63;rcases hq with hq|hq
 ·obtain⟨ld,r',pl,hz⟩:=I.list hq;have ad:=r'.length;exact Calls.call_len_list pl.isList (by simp only[size_toArray] <;> lia) ⟨.int ys.length,H,I.tok _,⟨s.toks+1,by rw[size_toArray,ad]⟩,q⟩
 ·obtain⟨ld,r',pl,hz⟩:=I.tuple hq;have ad:=r'.length;exact len_tuple pl (by simp only[size_toArray] <;> lia) ⟨.int ys.length,H,I.tok _,⟨s.toks+1,by rw[size_toArray,ad]⟩,q⟩
theorem va:CallR X (.builtin "len") (fun xs H Q=>∃z,xs=[.str z]∧z.length≤sizeLine∧Q (.int z.length) H):=by intro pins s σ H xs us Q I r h;obtain⟨z,rfl,hz,q⟩:=h;obtain⟨u,rfl,t,rfl⟩:=vals1 r;have hn:=line63;exact len_str (by lia) ⟨.int z.length,H,I.tok _,⟨_,rfl⟩,q⟩
theorem vc:CallR X (.type "list") (fun xs H Q=>∃p ys,xs=[.ref p]∧(SqL X.K H p ys∨SqT X.K H p ys)∧∀l,H l=none->Q (.ref l) (upd H l (.lst ys))):=by
 intro dl s σ H xs us Q I r h;obtain⟨p,ys,rfl,hq,q⟩:=h;obtain⟨u,rfl,rx⟩:=vals1 r;cases rx;have ld:∀(ad:List Value),Vals ys ad->ys.length≤sizeLine->∀(h':Heap) (c':Nat),(∀b o',s.heap.get? b=some o'->h'.get? b=some o') ->
   h'.get? s.heap.objs.size=some {cls:=.type "list",dict:=none,data:=.seq ad.toArray c',slots:=#[]}->EP X dl σ Q (.ref s.heap.objs.size) {s with heap:=h' }:=fun ad r' hz h' c' kp e=>
  ⟨.ref s.heap.objs.size,_,I.laid (t':=s.toks) kp (Nat.le_refl _) (show ObjOk X.prog X.w _ h' _ (.lst ys) from ⟨hz,ad,c',r',e⟩),rfl,q _ (I.hok.fresh (Nat.le_refl _))⟩
 rcases hq with hq|hq
 ·obtain⟨ad,r',pl,hz⟩:=I.list hq;have hlen:=r'.length;obtain⟨o,ho,hc,n,hd⟩:=pl.isList;exact call_list_seq p (.inl rfl) ho hc hd (fun h' c' kp e=>ld ad r' hz h' c' kp e) (by simp only[size_toArray] <;> lia)
 ·obtain⟨ad,r',pl,hz⟩:=I.tuple hq;have hlen:=r'.length;obtain⟨o,ho,hc,n,hd⟩:=pl;exact call_list_seq p (.inr rfl) ho hc hd (fun h' c' kp e=>ld ad r' hz h' c' kp e) (by simp only[size_toArray] <;> lia)
theorem mF:CallR X (.type "tuple") (fun xs H Q=>∃p ys,xs=[.ref p]∧((SqL X.K H p ys∧∀l,H l=none->Q (.ref l) (upd H l (.tup ys)))∨(SqT X.K H p ys∧Q (.ref p) H))):=by
 intro ad s σ H xs us Q I r h;obtain⟨p,ys,rfl,h⟩:=h;obtain⟨u,rfl,rx⟩:=vals1 r;cases rx;rcases h with⟨hq,q⟩|⟨hq,q⟩
 ·obtain⟨dl,r',pl,hz⟩:=I.list hq;have hlen:=r'.length;refine call_tuple_list pl.isList (fun h' kp=>?_) (by simp only[size_toArray] <;> lia)
  have I1:Inv X ad σ H {s with heap:=h' }:=I.kept (t':=s.toks) kp;have I2:Inv X ad σ (upd H h'.objs.size (.tup ys)) {s with heap:=h'.push {cls:=.type "tuple",data:=.seq dl.toArray} }:=
   I1.laid (t':=s.toks) (fun b o e=>Heap.get?_push_of_some _ e) (Nat.le_refl _) (show ObjOk X.prog X.w _ _ _ (.tup ys) from ⟨hz,dl,r',IsTup.new _ _⟩)
  exact⟨.ref h'.objs.size,_,I2,rfl,q _ (I1.hok.fresh (Nat.le_refl _))⟩
 ·obtain⟨dl,r',pl,hz⟩:=I.tuple hq;exact call_tuple_same pl ⟨.ref p,H,I,rfl,q⟩
noncomputable def tyV (K:W.Frag)(T:String)(x:V)(H:Hp):Prop:=match x with
 |.str _=>T = "str"
 |.int _=>T = "int"
 |.ref p=>(T = "list" ∧ ∃xs,SqL K H p xs)∨(T = "tuple" ∧ ∃o,K.lookup p=some o∧o.cls=.type "tuple" ∧ o.dict=none) ∨
   (T = "dict" ∧ ((∃kvs,H p=some (.dK kvs))∨∃kvs,H p=some (.dT kvs)))∨(T = "set" ∧ ∃S n,H p=some (.set S n))
 |_=>False
theorem vd {pins:List (Addr×Obj)}{σ:St}{H:Hp}{s:Shared}{T:String}{x:V}{v:Value}(I:Inv X pins σ H s)(r:RelV x v)(ty:tyV X.K T x H) :
  s.TypeIs v T∧∀a,v=.ref a->∃ob,s.heap.get? a=some ob∧ob.dict=none:=by
 cases x with
 |str z=>obtain⟨t,rfl⟩:=r;cases (show T = "str" from ty);exact⟨typeIs_str s z t,fun _ e=>nomatch e⟩
 |int i=>obtain⟨t,rfl⟩:=r;cases (show T = "int" from ty);exact⟨typeIs_int s i t,fun _ e=>nomatch e⟩
 |ref p=>
  cases r;rcases ty with⟨rfl,xs,hq⟩|⟨rfl,o,hk,hc,hd⟩|⟨rfl,hk⟩|⟨rfl,S,n,hk⟩
  ·obtain⟨dl,_,pl,_⟩:=I.list hq;refine⟨pl.isList.typeIs,fun a e=>?_⟩;cases e;obtain⟨o,n,e,c,hd,_⟩:=pl;exact⟨o,e,hd⟩
  ·refine⟨⟨o,I.kIn p o hk,hc⟩,fun a e=>?_⟩;cases e;exact⟨o,I.kIn _ o hk,hd⟩
  ·have z:∃o,s.heap.get? p=some o∧o.ExactDict:=by
    rcases hk with⟨ad,hk⟩|⟨ad,hk⟩
    ·obtain⟨_,_,_,_,o,_,_,e,ex,_⟩:=I.hok p _ hk;exact⟨o,e,ex⟩
    ·obtain⟨_,_,_,_,o,_,_,e,ex,_⟩:=I.hok p _ hk;exact⟨o,e,ex⟩
   obtain⟨o,e,ex⟩:=z;refine⟨⟨o,e,ex.1⟩,fun a e2=>?_⟩;cases e2;exact⟨o,e,ex.2.1⟩
  ·obtain⟨o,_,_,_,e,ex,_⟩:=I.hok p _ hk;refine⟨⟨o,e,ex.1⟩,fun a e2=>?_⟩;cases e2;exact⟨o,e,ex.2.1⟩
 |_=>exact False.elim ty
noncomputable def tBM0 (K:W.Frag)(T:String)(r:V->List V->Hp->VK->Prop)(to:TE):TE:=fun σ H Q=>to σ H fun x H1=>tyV K T x H1∧r x [] H1 Q
noncomputable def tBM (K:W.Frag)(T:String)(r:V->List V->Hp->VK->Prop)(to:TE)(t:TA):TE:=fun σ H Q=>to σ H fun x H1=>tyV K T x H1∧t σ H1 fun xs H2=>r x xs H2 Q
variable {o e:Expr}{es:List Expr}{to:TE}{t:TA}{name:Str}{apos cpos:Pos}{T id:String}{r:V->List V->Hp->VK->Prop}
theorem ve (pa:PlainAttrs T)(slot:Slot T name id)(hty:typeOf (.builtin id)=pure (.type "method_descriptor"))(hm:MtR X id r)(ho:PE X o to)(ha:PA X (e::es) t)
  (hbase:attributeBase o name X.env (eval o X.env)=eval o X.env:=by rfl)
  (hfew:((backTo cpos (starEach (e::es) X.env)).all (fun x=>!x.1) && (backToKw cpos (keywordEach [] X.env)).all (fun x=>x.1.isSome)
   && decide ((e::es).length+([]:List Keyword).length+(if ([]:List Keyword).isEmpty then 0 else 1) < 30))=true:=by rfl)
  (hline:(apos.endLine == cpos.line)=true:=by rfl) (hs:starEach (e::es) X.env=(false,eval e X.env)::starEach es X.env:=by rfl) (hplain:(backTo cpos (starEach es X.env)).any (·.1)=false:=by rfl) :
  PE X (.Call (.Attribute o name apos) (e::es) [] cpos) (tBM X.K T r to t):=by
 intro ad s σ H Q I h;refine wpAny_Call_method_late hbase hfew hline rfl (thn (ho ad s σ H _ I h) fun v s1 W'=>?_);obtain⟨x,H1,I1,r1,ty,q1⟩:=W';obtain⟨h1,h2⟩:=vd I1 r1 ty;refine⟨T,id,pa,slot,hty,h1,h2,?_⟩;have hA:=ha cpos ad s1 σ H1 _ I1 q1;rw[hs] at hA ⊢;refine Calls.callWith_builtin (by show (false || (backTo cpos (starEach es X.env)).any (·.1))=false;rw[hplain] <;> rfl) (Calls.evalArgs_plain ?_)
 exact thn hA fun us s2 ⟨vs,H2,I2,r2,q2⟩=>hm ad s2 σ H2 x vs v us Q I2 r1 r2 q2
end
noncomputable def MtM (X:Cx)(id:String)(r:V->List V->Hp->VK->Prop):Prop:=
 ∀(pins:List (Addr×Obj)) (s:Shared) (σ:St) (H:Hp) (x:V) (xs:List V) (v:Value) (us:List Value) (Q:VK),Inv X pins σ H s->RelV x v->Vals xs us->r x xs H Q ->
  wpAny (model X.prog X.w) X.A (call (.builtin id) (v::us)) (EP X pins σ Q) X.xe s
theorem Vals.one:∀{x:V}{us:List Value},Vals [x] us->∃u,us=[u]∧RelV x u
 |_,_,.cons r .nil=>⟨_,rfl,r⟩
theorem Vals.rep {xs:List V}{us:List Value}(h:Vals xs us):∀k:Nat,Vals (List.replicate k xs).flatten (List.replicate k us).flatten
 |0=>.nil
 |k+1=>by rw[replicate_succ,replicate_succ,flatten_cons,flatten_cons];exact Vals.append h (Vals.rep h k)
theorem io (its:List Value):∀(k:Nat) (acc:List Value),
  List.foldl (fun x1 x2=>x1++x2) acc.toArray (List.replicate k its.toArray)=(acc++(List.replicate k its).flatten).toArray
 |0,acc=>by simp
 |k+1,acc=>by
  have e:acc.toArray++its.toArray=(acc++its).toArray:=by simp
  have e2:(acc++its)++(List.replicate k its).flatten=acc++(List.replicate (k+1) its).flatten:=by rw[replicate_succ,flatten_cons,append_assoc]
  rw[<- e2,<- io its k (acc++its),<- e,replicate_succ,List.foldl_cons]
section
variable {X:Cx}{pins:List (Addr×Obj)}{σ:St}{H:Hp}{s:Shared}{l b:Addr}{xs ys zs:List V}
theorem Inv.lset {its its':List Value}{n:Nat}{f:Array Value->Array Value}{t':Nat}(I:Inv X pins σ H s)(hH:H l=some (.lst xs))
  (e:s.heap.get? l=some {cls:=.type "list",data:=.seq its.toArray n}) (hf:f its.toArray=its'.toArray) (hv:Vals ys its') (hz:ys.length≤sizeLine) :
  Inv X pins σ (upd H l (.lst ys)) {s with heap:=s.heap.update l (Obj.mapSeq f),toks:=t' }:=by
 have q:=PySem.IsL.update e f;rw[hf] at q;refine I.write (x:=l) (e:=l) (by rw[hH];exact trivial) (.inl rfl) (fun b' u hb hu=>(Heap.get?_update_other s.heap (Obj.mapSeq f) (Ne.symm hb)).trans hu) ⟨_,q⟩ ?_;exact⟨hz,its',_,hv,q⟩
theorem Inv.lnew {its:List Value}{t':Nat}(I:Inv X pins σ H s)(hv:Vals ys its)(hz:ys.length≤sizeLine) :
  Inv X pins σ (upd H s.heap.objs.size (.lst ys)) {s with heap:=s.heap.push {cls:=.type "list",data:=.seq its.toArray},toks:=t' }:=
 I.laid (fun _ _ q=>Heap.get?_push_of_some _ q) (Nat.le_refl _) ⟨hz,its,0,hv,Heap.get?_push_size _ rfl⟩
theorem Inv.fresh (I:Inv X pins σ H s):H s.heap.objs.size=none:=I.hok.fresh (Nat.le_refl _)
theorem Inv.lstM (I:Inv X pins σ H s)(hH:H l=some (.lst xs)):xs.length≤sizeLine∧∃(its:List Value) (n:Nat),Vals xs its∧xs.length=its.length∧s.heap.get? l=some {cls:=.type "list",data:=.seq its.toArray n}:=by obtain⟨z,its,n,r,e⟩:=I.hok l _ hH;exact⟨z,its,n,r,r.length,e⟩
theorem notLongL {n:Nat}(h:n≤sizeLine):Builtin.List.listTooLong n=false:=by unfold Builtin.List.listTooLong;exact decide_eq_false (by lia)
end
section
variable {X:Cx}
noncomputable def rAppend:V->List V->Hp->VK->Prop:=fun x vs H Q=>∃l xs y,x=.ref l∧vs=[y]∧H l=some (.lst xs)∧xs.length < sizeLine∧Q .non (upd H l (.lst (xs++[y])))
theorem bU:MtM X "list.append" rAppend:=by intro dl s σ H x vs v us Q I rx rv h;obtain⟨l,xs,y,rfl,rfl,hH,hz,q⟩:=h;cases rx;obtain⟨u,rfl,ru⟩:=rv.one;obtain⟨z,ad,n,r,hl,e⟩:=I.lstM hH;refine call_meets F.slot_list_append ⟨_,e,rfl⟩ F.entry_list_append (F.args_list_append_2 _ _) (PySem.list_append l ad.toArray n u (by rw[size_toArray];lia)) ⟨e,?_⟩;refine⟨.non,_,I.lset (its':=ad++[u]) hH e (by simp) (r.append (.cons ru .nil)) ?_,rfl,q⟩;rw[length_append,length_singleton];lia
noncomputable def rExtend:V->List V->Hp->VK->Prop:=fun x vs H Q=>∃l b xs zs,x=.ref l∧vs=[.ref b]∧H l=some (.lst xs)∧H b=some (.lst zs)∧xs.length+zs.length≤sizeLine∧Q .non (upd H l (.lst (xs++zs)))
theorem vf:MtM X "list.extend" rExtend:=by
 intro mt s σ H x vs v us Q I rx rv h;obtain⟨l,b,xs,zs,rfl,rfl,hH,hB,hz,q⟩:=h;cases rx;obtain⟨u,rfl,ru⟩:=rv.one;cases ru;obtain⟨z,dl,n,r,hl,e⟩:=I.lstM hH;obtain⟨z2,ad,n2,r2,Cl,e2⟩:=I.lstM hB;have BT:dl.toArray.size+ad.toArray.size≤sizeLine:=by rw[size_toArray,size_toArray];lia
 have ld:¬ (!dl.toArray.isEmpty && Builtin.List.listTooLong (dl.toArray.size+ad.toArray.size))=true:=by rw[notLongL BT,Bool.and_false];exact Bool.false_ne_true
 refine call_meets F.slot_list_extend ⟨_,e,rfl⟩ F.entry_list_extend (F.args_list_extend_2 _ _)
  (AutoSeq1.list_extend_list_list_0 l dl.toArray n b ad.toArray n2 ld (by rw[size_toArray];lia) (by lia)) ⟨e,e2,?_⟩
 refine⟨.non,_,I.lset (its':=dl++ad) hH e (by simp) (r.append r2) ?_,rfl,q⟩;rw[length_append];lia
noncomputable def rPop:V->List V->Hp->VK->Prop:=fun x vs H Q=>∃l xs y,x=.ref l∧vs=[]∧H l=some (.lst xs)∧xs[xs.length - 1]?=some y∧Q y (upd H l (.lst xs.dropLast))
noncomputable def rPopAt:V->List V->Hp->VK->Prop:=fun x vs H Q=>∃l xs i k y,x=.ref l∧vs=[.int i]∧H l=some (.lst xs)∧-(2 ^ 63)≤i∧i < 2 ^ 63∧seqIndex? i xs.length=some k∧xs[k]?=some y∧Q y (upd H l (.lst (xs.eraseIdx k)))
noncomputable def rReverse:V->List V->Hp->VK->Prop:=fun x vs H Q=>∃l xs,x=.ref l∧vs=[]∧H l=some (.lst xs)∧Q .non (upd H l (.lst xs.reverse))
noncomputable def rCat:R2:=fun x y H Q=>∃l b xs zs,x=.ref l∧y=.ref b∧H l=some (.lst xs)∧H b=some (.lst zs)∧xs.length+zs.length≤sizeLine∧∀p,H p=none->Q (.ref p) (upd H p (.lst (xs++zs)))
theorem vg:OpR X (binaryOp .Add) rCat:=by
 intro ld s σ H x y v u Q I rx ry h;obtain⟨l,b,xs,zs,rfl,rfl,hH,hB,hz,q⟩:=h;cases rx;cases ry;obtain⟨z,dl,n,r,hl,e⟩:=I.lstM hH;obtain⟨z2,ad,n2,r2,mt,e2⟩:=I.lstM hB;refine PySem.P.add_list e e2 ?_ (by rw[size_toArray,size_toArray];lia);have ea:dl.toArray++ad.toArray=(dl++ad).toArray:=by simp
 rw[ea];exact⟨.ref _,_,I.lnew (t':=s.toks) (r.append r2) (by rw[length_append];lia),rfl,q _ I.fresh⟩
theorem mG {α:Type}(xs:List α)(k:Nat):(List.replicate k xs).flatten.length=k * xs.length:=by
 induction k with
 |zero=>simp
 |succ k ih=>rw[replicate_succ,flatten_cons,length_append,ih,Nat.succ_mul,Nat.add_comm]
end
section
variable {prog:Program}{w:World}{A:Around}{E:Value->Shared->Prop}{s:Shared}
set_option maxRecDepth 100000 in
end
section
variable {X:Cx}
end
end L2
namespace Att
open PySem PySem.W PySem.Calls PyProof.Rows
theorem vh {P:Params}{h:Heap}:∀(ns:List Int) (vs:List Value),WellAll P h vs (ns.map WData.int)->IntsAre vs ns:=by
 intro ns;induction ns with
 |nil=>intro vs w;rw[map_nil] at w;cases w;exact .nil
 |cons n ns ih=>
  intro vs w;rw[map_cons] at w;cases w with
  |cons a b=>cases a;exact .cons _ _ (ih _ b)
theorem vi {l:OpenLaw}{n:Nat}(hn:l.most=some n){P:Params}{h:Heap}{args:List WData}{vals:List Value}
  (hpre:l.row.toRowW.claim.pre args=true) (hwl:WellAll P h vals args) :
  ∃a vs ns,vals=[Value.ref a]∧args=[WData.list (ns.map WData.int)]∧h.get? a=some {cls:=.type "list",data:=.seq vs.toArray}∧IntsAre vs ns∧ns.length≤n:=by
 have dl:WShape.hasAll [] args [.list .int]=true:=(pre_splitW hpre).1;have hc:l.pre.holds [] {args:=args}=true:=(pre_splitW hpre).2;obtain⟨d,r,rfl,h1,h2⟩:=hasAllW_cons dl;obtain rfl:=hasAllW_nil h2;obtain⟨xs,rfl,h3⟩:=hasW_list h1;obtain⟨ns,rfl⟩:=items_int h3;have ad:ns.length≤n:=by
  unfold OpenLaw.pre at hc;have h4:(WTm.not (.lt (.lit (.int (n:Int))) (.len (.arg 0)))).holds [] {args:=[.list (ns.map .int)]}=true:=by have h4:=(holds_andW hc).1;rw[hn] at h4;exact h4
  have h5:=condW_of h4 (w_not (w_lt w_lit (w_len_list (w_arg rfl))));rw[length_map] at h5;refine Nat.le_of_not_lt fun q=>?_;have q':(n:Int) < ((ns.length:Nat):Int):=by lia
  first
   | (rw[decide_eq_true q'] at h5;exact absurd h5 (by decide))
   | (simp at h5;lia)
 cases hwl with
 |cons w1 w2=>
  cases w2;cases w1 with
  |list ho hall=>exact⟨_,_,ns,rfl,rfl,ho,vh ns _ hall,ad⟩
theorem vj (l:OpenLaw)(args:List WData):l.row.toRowW.claim.post args (.bool true) args=true:=
 postW_of (r:=l.row.toRowW) (X:=(true == true))
  (show WShape.has [] (.bool true) .bool=true by first|rfl|decide|simp[WShape.has,WShape.arms,WShape.armsAll])
  (show (WTm.eq .res (.lit (.bool true))).value [] {args:=args,res:=some (.bool true),after:=args}=some (.bool (true == true)) from w_eq_bool (w_res rfl) w_lit) rfl
theorem attach_call {l:OpenLaw}{n:Nat}{q:Program}{loose:List Str}{XP:(Str->Option Value)->Heap->Prop}{YP:World->Heap->Prop}{d:DefRec}
  (hn:l.most=some n) (hdf:d.params.defaults=[])
  (call:∀(w:World) (s₀ s₁:Shared) (mg mb:Str->Option Value) (fa:Addr) (o:Obj) (pm cd doc:Value) (a:Addr) (vs:List Value) (ns:List Int),
   Ground q loose [] XP w s₀ mg mb s₁.heap->YP w s₁.heap ->
   s₁.heap.get? fa=some o->o.data=.func (docDef d.name d.params d.body d.scope pm cd doc)->s₁.heap.CodeRec cd d.name->mg d.name=some (.ref fa) ->
   s₁.heap.get? a=some {cls:=.type "list",data:=.seq vs.toArray}->IntsAre vs ns->ns.length≤n->s₁.gens=#[] ->
   codeAny (model l.prog w) callerA (.call (.ref fa) ⟨[.ref a],[]⟩) (fun r s'=>r=.ok (.ret (.bool true))∧OldK s₁.heap s'.heap∧s'.os=s₁.os∧AllBare s'.gens) s₁) :
  WalkO q loose XP YP l.row.toRowW d [] (fun f vs=>PySem.call f vs):=by
 intro w s₀ s₁ mg mb G Y fa o pm cd doc dV kV ho hd Fx hD Fn hg Fy BT as dl Fr Fz Cl FA;obtain rfl:dV=.none:=Dflts.none hD hdf;obtain rfl:kV=.none:=Dflts.noKw hD;obtain⟨a,vs,ns,rfl,rfl,ld,ad,mt⟩:=vi hn dl Cl;refine enter_call (codeAny_mono (call w s₀ s₁ mg mb fa o pm cd doc a vs ns G Y ho (fd_plain hd) Fx Fn ld ad mt hg) fun r s' hq=>?_);obtain⟨rfl,h2,h3,h4⟩:=hq;exact⟨.inl ⟨.bool true,.bool true,[],rfl,fun _=>rfl,.bool true,vj l _,fun _=>⟨List.Pairwise.nil,fun _ hm=>(nomatch hm)⟩⟩,h2,h3,h4⟩
section
variable {prog:Program}{w:World}{A:Around}{E:Value->Shared->Prop}{s:Shared}{K:Frag}
noncomputable def ledger (h:Heap)(L d:Addr):List (Addr×Obj):=(List.range h.objs.size).filterMap fun a=>if a=L∨a=d then none else (h.get? a).map fun o=>(a,o)
end
end Att
namespace L2
open PySem PySem.Spec PyProof.Rows
theorem mH:∀{vs:List Value}{ns:List Int},IntsAre vs ns->Vals (ns.map V.int) vs
 |_,_,.nil=>.nil
 |_,_,.cons n t h=>.cons ⟨t,rfl⟩ (mH h)
noncomputable def Only (H:Hp):Prop:=∀b,H b=none∨∃o xs,H b=some (.frz o (.lst xs))
theorem vk {P:Program}{w:World}{K:W.Frag}{mg mb:Str->Option Value}{CX:CXT}{k:Nat}{fa a:Addr}{fd:FuncData}{x:Str}{sp:Sp}{s₁:Shared}{vs:List Value}{ns:List Int}
  (KX:K.In s₁.heap) (hns:s₁.heap.Ns mainGlobals mg) (hb:s₁.heap.Ns builtinsNs mb) (hbb:∀x:Str,x ≠ "__name__" -> mb x=bootBuiltins x) (hlim:s₁.heap.NoLimit) (hg:s₁.gens=#[])
  (ha:s₁.heap.get? a=some {cls:=.type "list",data:=.seq vs.toArray}) (hi:IntsAre vs ns) (hl:ns.length≤sizeLine) (hr:Room k callerA)
  (F:∀base:Heap,K.In base->base.Ns mainGlobals mg->FnOk P w K mg base CX k fa fd [x] sp) (hbind:∀(s:Shared) (u:Value),BindsTo s fd ⟨[u],[]⟩ [(x,u)])
  (hsp:∀H:Hp,Only H->SqL K H a (ns.map V.int)->sp [.ref a] H (fun v _=>v=.bl true) fun _ _ _=>False)
  (hCX:∀H e s',CX [] H s₁ (fun _ _ _=>False) e s'->False) :
  codeAny (model P w) callerA (.call (.ref fa) ⟨[.ref a],[]⟩) (fun r s'=>r=.ok (.ret (.bool true))∧OldK s₁.heap s'.heap∧s'.os=s₁.os∧AllBare s'.gens) s₁:=by
 have rv:=mH hi;have Fx:=hi.length;have dl:∀H:Hp,Only H->SqL K H a (ns.map V.int)->HOk P w H s₁.heap->(∀b,H b≠none->b=a)->(H a≠none->K.lookup a=none) ->
   codeAny (model P w) callerA (.call (.ref fa) ⟨[.ref a],[]⟩) (fun r s'=>r=.ok (.ret (.bool true))∧OldK s₁.heap s'.heap∧s'.os=s₁.os∧AllBare s'.gens) s₁:=by
  intro H hO hS Cl hA hK;have ad:∀{b:Addr}{o:Obj},s₁.heap.get? b=some o->H b=none->(hidT s₁.heap H).get? b=some o:=fun e n=>uN e n;have Fr:∀{b:Addr}{o:Obj}{es:Array DictEntry}{ep:Nat},s₁.heap.get? b=some o->o.data=.dict es ep->H b=none:=fun {b o es ep} e d=>by
   cases q:H b with
   |none=>rfl
   |some u=>have e':b=a:=hA b (by rw[q];simp);subst e';rw[ha] at e;cases e;have d':Data.seq vs.toArray _=Data.dict es ep:=d;cases d'
  have ld:∀{b:Addr}{m:Str->Option Value},s₁.heap.Ns b m->(hidT s₁.heap H).Ns b m:=fun {b m} ⟨o,es,ep,e,d,r⟩=>⟨o,es,ep,ad e (Fr e d),d,r⟩;have Fn:K.In (hidT s₁.heap H):=fun b o e=>ad (KX b o e) (by
   cases q:H b with
   |none=>rfl
   |some u=>have e':b=a:=hA b (by rw[q];simp);subst e';rw[hK (by rw[q];simp)] at e;cases e)
  have hM:Mod K mg (hidT s₁.heap H):=⟨Fn,ld hns,⟨mb,ld hb,hbb⟩,let ⟨mc,h1,h2⟩:=hlim;⟨mc,ld h1,h2⟩⟩;have e0:Env0 P w K mg (hidT s₁.heap H) callerA [] s₁ H:=⟨rfl,hM,fun b o e=>uO e,Nat.le_of_eq (uM _ _),trivial,fun b hb=>absurd (show b∈([]:List Addr) from hb) (by simp),Cl,.of_eq hg⟩;refine codeAny_mono ((F _ Fn (ld hns)).run callerA [] s₁ H ⟨[.ref a],[]⟩ [.ref a] [.ref a] _ _ hr e0 (hbind s₁ (.ref a)) (.cons rfl .nil) (hsp H hO hS)) fun r s' h=>?_;cases r with
  |error e=>exact (hCX H e s' h).elim
  |ok fl=>
   cases fl with
   |next=>exact False.elim h
   |brk=>exact False.elim h
   |cont=>exact False.elim h
   |ret u=>
    obtain⟨v,H',os,BT,un,mt,r',q⟩:=h;have q':v=.bl true:=q;subst q';obtain rfl:u=Value.bool true:=r';refine⟨rfl,OldK.of_keep fun b o e=>?_,os,BT⟩;cases q:H b with
    |none=>exact un.keep b o e q (by intro z;exact absurd (show b∈([]:List Addr) from z) (by simp)) (by simp)
    |some u=>
     rcases hO b with z|⟨ob,xs,z⟩
     ·rw[q] at z;cases z
     ·have z2:=un.frzs b ob _ z;obtain⟨e1,_⟩:=Cl b _ z;obtain⟨e2,_⟩:=mt b _ z2;rw[e] at e1;cases e1;exact e2
 cases hk:K.lookup a with
 |some o=>have e:=KX a o hk;rw[ha] at e;cases e;refine dl (fun _=>none) (fun _=>.inl rfl) (.inr ⟨_,vs.toArray,_,hk,rfl,rfl,rfl,by rw[size_toArray,Fx];exact hl,by simpa using rv⟩) (fun b u z=>by have z':(none:Option HO)=some u:=z;cases z') (fun b z=>absurd rfl z) fun z=>absurd rfl z
 |none=>
  refine dl (fun b=>if b=a then some (.frz {cls:=.type "list",data:=.seq vs.toArray} (.lst (ns.map V.int))) else none) (fun b=>?_) (.inl (.inr ⟨{cls:=.type "list",data:=.seq vs.toArray},if_pos rfl⟩)) (fun b u z=>?_) (fun b z=>?_) fun _=>hk
  ·by_cases hb:b=a
   ·exact .inr ⟨_,_,if_pos hb⟩
   ·exact .inl (if_neg hb)
  ·by_cases hb:b=a
   ·have z':=(if_pos hb).symm.trans z;cases z';subst hb;exact⟨ha,by rw[length_map];exact hl,vs,_,rv,ha⟩
   ·have z':=(if_neg hb).symm.trans z;cases z'
  ·by_cases hb:b=a
   ·exact hb
   ·exact absurd (if_neg hb) z
noncomputable abbrev KOf {K:W.Frag}{h:Heap}(_:K.In h):W.Frag:=K
theorem vn {l:PySem.W.OpenLaw}{n k:Nat}{q:Program}{loose:List Str}{XP:(Str->Option Value)->Heap->Prop}{YP:World->Heap->Prop}{d:DefRec}{K:Params->W.Frag}{CX:World->CXT}{sp:World->Sp}{x:Str}
  (hn:l.most=some n) (hn2:n≤sizeLine) (hdf:d.params.defaults=[]) (hr:Room k callerA)
  (hY:∀(w:World) (h:Heap),YP w h->(K w.params).In h)
  (F:∀(w:World) (mg:Str->Option Value) (fa:Addr) (h:Heap),(K w.params).In h->h.Ns mainGlobals mg->mg d.name=some (.ref fa) ->
   ∃fd:FuncData,(∀(s:Shared) (u:Value),BindsTo s fd ⟨[u],[]⟩ [(x,u)]) ∧
    ∀base:Heap,(K w.params).In base->base.Ns mainGlobals mg->FnOk l.prog w (K w.params) mg base (CX w) k fa fd [x] (sp w))
  (hsp:∀(w:World) (H:Hp) (a:Addr) (ns:List Int),ns.length≤n->Only H->SqL (K w.params) H a (ns.map V.int)->sp w [.ref a] H (fun v _=>v=.bl true) fun _ _ _=>False)
  (hCX:∀(w:World) (H:Hp) (s:Shared) (e:Value) (s':Shared),CX w [] H s (fun _ _ _=>False) e s'->False) :
  PySem.W.WalkO q loose XP YP l.row.toRowW d [] (fun f vs=>PySem.call f vs):=by
 refine Att.attach_call hn hdf fun w s₀ s₁ mg mb fa o pm cd Cl a vs ns G Y ho hd BT mt ld dl ad hg=>?_;have KX:=hY w _ Y;obtain⟨fd,hb,hF⟩:=F w mg fa _ KX G.T.g mt;exact vk KX G.T.g G.T.b G.T.builtins G.T.nolimit hg ld dl (Nat.le_trans ad hn2) hr hF hb (fun H hO hS=>hsp w H a ns ad hO hS) fun H e s'=>hCX w H s₁ e s'
noncomputable def inClass (s:Stmt)(j:Nat):Stmt:=match s with
 |.ClassDef _ _ _ body _ _ _ _ _ _ _=>body.getD j (.Pass ⟨0,0,0,0⟩)
 |_=>.Pass ⟨0,0,0,0⟩
noncomputable def defArgs (s:Stmt):Arguments:=match s with
 |.FunctionDef _ a _ _ _ _ _ _ _ _=>a
 |_=>{ posonlyargs:=[],args:=[],vararg:=none,kwonlyargs:=[],kw_defaults:=[],kwarg:=none,defaults:=[]}
noncomputable def defBody (s:Stmt):List Stmt:=match s with
 |.FunctionDef _ _ b _ _ _ _ _ _ _=>b
 |_=>[]
noncomputable def defScope (s:Stmt):Scope:=match s with
 |.FunctionDef _ _ _ _ _ _ sc _ _ _=>sc
 |_=>{ kind:=.function,names:=[],isGenerator:=false,isCoroutine:=false}
noncomputable abbrev CX0:CXT:=fun _ _ _ _ _ _=>False
noncomputable abbrev E0:XK:=fun _ _ _=>False
theorem pass0 {X:Cx}:Passes CX0 X E0:=fun _ _ _ _ _ _ _ h=>h.elim
structure Fun (K:W.Frag)(x qual:Str)(st:Stmt)(f:Addr)(fd:FuncData):Prop where
 ex:∃(oc:Value) (od:Option Addr) (kV doc pm:Value) (an:Option Addr) (cdv ct:Value) (osl:Array (Option Value)),
  fd=PySem.W.fnOf x qual (defArgs st) (defBody st) (defScope st) .none kV doc pm an cdv ct∧K.lookup f=some ⟨oc,od,.func fd,osl⟩∧PySem.W.codeIn K cdv qual=true
 kp:PySem.W.keepIn K (.ref f)=true
section
variable {P:Program}{w:World}{K:W.Frag}{mg:Str->Option Value}{base:Heap}
theorem Fun.ok {x qual:Str}{st:Stmt}{f:Addr}{fd:FuncData}{N ps:List Str}{k:Nat}{sp:Sp}(F:Fun K x qual st f fd)(S:FnScope N ps (defScope st))(len:∀vs H Q E,sp vs H Q E->vs.length=ps.length)
  (hbody:∀(cdv:Value) (A:Around) (outer:List Env) (s:Shared) (H:Hp) (vs:List V) (Q:VK) (E:XK),Room k (A.deeper (envOfC qual (defScope st) s.heap.objs.size f cdv))->sp vs H Q E ->
   ∃t,PSs (cxOf CX0 P w K mg base N qual (defScope st) f cdv A outer s H E).nox (defBody st) t∧t {nx:=fun _ H'=>Q .non H',rt:=Q} (start N vs) H):FnOk P w K mg base CX0 (k+1) f fd ps sp:=by
 obtain⟨oc,od,kV,doc,pm,an,cdv,ct,osl,rfl,lk,hcd⟩:=F.ex;refine m7 lk hcd S len fun A outer s H vs Q E hr hsp=>?_;obtain⟨t,h,q⟩:=hbody cdv A outer s H vs Q E hr hsp;exact⟨t,h.nox,q⟩
theorem Fun.binds {x qual:Str}{st:Stmt}{f:Addr}{fd:FuncData}{ps:List Str}(F:Fun K x qual st f fd)
  (h:∀(kV doc pm:Value) (an:Option Addr) (cdv ct:Value) (us:List Value),us.length=ps.length->bindArgs (PySem.W.fnOf x qual (defArgs st) (defBody st) (defScope st) .none kV doc pm an cdv ct) ⟨us,[]⟩=pure (ps.zip us)):Binds K fd ps []:=by
 obtain⟨oc,od,kV,doc,pm,an,cdv,ct,osl,rfl,lk,hcd⟩:=F.ex;exact .all (h kV doc pm an cdv ct)
theorem cW {x qual:Str}{st:Stmt}{f:Addr}{oc:Value}{od an:Option Addr}{osl:Array (Option Value)}{kV doc pm cdv ct:Value}(l:K.lookup f=some ⟨oc,od,.func (PySem.W.fnOf x qual (defArgs st) (defBody st) (defScope st) .none kV doc pm an cdv ct),osl⟩)
  (c:PySem.W.codeIn K cdv qual=true) (k:PySem.W.keepIn K (.ref f)=true):Fun K x qual st f (PySem.W.fnOf x qual (defArgs st) (defBody st) (defScope st) .none kV doc pm an cdv ct):=⟨⟨oc,od,kV,doc,pm,an,cdv,ct,osl,rfl,l,c⟩,k⟩
end
section
variable {X:Cx}
theorem pv (i:Nat){x:Str}{pos:Pos}(hN:X.N[i]?=some x:=by rfl)(hv:Vis X.env.scope x:=by first|exact Or.inl rfl|exact Or.inr (Or.inl rfl)|exact Or.inr (Or.inr rfl))(hd:(x == ("__debug__" : Str))=false:=by decide)
  (hcd:(x == ("__classdict__" : Str))=false:=by decide):PE X (.Name x pos) (tVar i):=uP hN hv hd hcd
end
theorem ite2 {c A B:Prop}[Decidable c](h1:c->A)(h2:¬ c->B):if c then A else B:=by
 by_cases h:c
 ·rw[if_pos h];exact h1 h
 ·rw[if_neg h];exact h2 h
noncomputable def Same (H H':Hp):Prop:=∀b o,H b=some o->H' b=some o
theorem Same.refl (H:Hp):Same H H:=fun _ _ h=>h
theorem Same.trans {H H1 H2:Hp}(a:Same H H1)(b:Same H1 H2):Same H H2:=fun c o h=>b c o (a c o h)
theorem Same.seq {K:W.Frag}{H H':Hp}{a:Addr}{xs:List V}(e:Same H H')(h:SqL K H a xs):SqL K H' a xs:=by
 rcases h with (h|⟨o,h⟩)|h
 ·exact .inl (.inl (e _ _ h))
 ·exact .inl (.inr ⟨o,e _ _ h⟩)
 ·exact .inr h
end L2
set_option maxHeartbeats 4000000
namespace L2
open PySem PySem.Spec PyProof.Rows
noncomputable def Its (z:Str):It:=⟨fun i _=>i < z.length,fun i H x H'=>H'=H∧∃c,z.cps.toList[i]?=some c∧x=.str ⟨#[c]⟩,fun i _=>z.length≤i⟩
theorem mI {z:Str}{i:Nat}(h:i < z.length):∃c,z.cps[i]?=some c∧z.cps.toList[i]?=some c:=by have h':i < z.cps.size:=h;exact⟨z.cps[i],by simp[h'],by simp[h']⟩
theorem mJ {z:Str}{i:Nat}(h:z.length≤i):z.cps[i]?=none:=by have h':z.cps.size≤i:=h;simp[h']
theorem vo {P:Program}{w:World}{K:W.Frag}{tg:Expr}(it:Addr)(z:Str)(t:Tok):Turn P w K tg (Its z) [it] it (fun i h=>h.IsStrIter it "str_ascii_iterator" z t i) where
 mem:=by simp
 obj:=fun i h st b hb=>by
  have e:b=it:=by simpa using hb
  subst e;obtain⟨o,e,c,d⟩:=st;exact⟨o,e,fun v z=>by rw[d] at z;cases z⟩
 keep:=fun i h h' st k=>by obtain⟨o,e,r⟩:=st;exact⟨o,k it (by simp) o e,r⟩
 item:=by intro X hP hw hK hc i ad s σ H E I hf st hg;subst hP hw hK;obtain⟨c,h1,h2⟩:=mI (z:=z) (i:=i) hg;obtain⟨f0,f1,f2,f3,f4,f5⟩:=hf it (by simp);refine wpAny_pyNext_ascii_item st h1 fun h' dl sb=>?_;have I1:Inv X ad σ H {s with heap:=h',toks:=s.toks+1}:=I.turned (t':=s.toks+1) (fun b o hb e=>(sb.2 b hb).trans e) f0 f1 f3 f4 f5;obtain⟨o,e,cl,d⟩:=id dl;exact⟨_,rfl,db (s:={ s with heap:=h',toks:=s.toks+1}) e cl d (by decide) ⟨.str ⟨#[c]⟩,H,I1,⟨_,rfl⟩,⟨rfl,c,h2,rfl⟩,dl,fun b hb=>(hf b hb).1⟩⟩
 done:=by intro X hP hw hK hc i ad s σ H E I hf st hg;subst hP hw hK;obtain⟨f0,f1,f2,f3,f4,f5⟩:=hf it (by simp);exact wpAny_pyNext_ascii_end (I.ok.hd hc) st (mJ hg) fun h' eb=>⟨rfl,I.turned (t':=s.toks) (fun b o hb e=>eb b o hb e) f0 f1 f3 f4 f5⟩
 self:=fun _ _ _ _ _ st h=>wpAny_pyIter_striter_ascii st h
theorem vp {P:Program}{w:World}{K:W.Frag}{tg:Expr}(it:Addr)(z:Str)(t:Tok):Turn P w K tg (Its z) [it] it (fun i h=>h.IsStrIter it "str_iterator" z t i) where
 mem:=by simp
 obj:=fun i h st b hb=>by
  have e:b=it:=by simpa using hb
  subst e;obtain⟨o,e,c,d⟩:=st;exact⟨o,e,fun v z=>by rw[d] at z;cases z⟩
 keep:=fun i h h' st k=>by obtain⟨o,e,r⟩:=st;exact⟨o,k it (by simp) o e,r⟩
 item:=by intro X hP hw hK hc i ad s σ H E I hf st hg;subst hP hw hK;obtain⟨c,h1,h2⟩:=mI (z:=z) (i:=i) hg;obtain⟨f0,f1,f2,f3,f4,f5⟩:=hf it (by simp);refine wpAny_pyNext_wide_item st h1 fun h' dl sb=>?_;have I1:Inv X ad σ H {s with heap:=h',toks:=s.toks+1}:=I.turned (t':=s.toks+1) (fun b o hb e=>(sb.2 b hb).trans e) f0 f1 f3 f4 f5;obtain⟨o,e,cl,d⟩:=id dl;exact⟨_,rfl,db (s:={ s with heap:=h',toks:=s.toks+1}) e cl d (by decide) ⟨.str ⟨#[c]⟩,H,I1,⟨_,rfl⟩,⟨rfl,c,h2,rfl⟩,dl,fun b hb=>(hf b hb).1⟩⟩
 done:=by intro X hP hw hK hc i ad s σ H E I hf st hg;subst hP hw hK;obtain⟨f0,f1,f2,f3,f4,f5⟩:=hf it (by simp);exact wpAny_pyNext_wide_end (I.ok.hd hc) st (mJ hg) fun h' eb=>⟨rfl,I.turned (t':=s.toks) (fun b o hb e=>eb b o hb e) f0 f1 f3 f4 f5⟩
 self:=fun _ _ _ _ _ st h=>wpAny_pyIter_striter_wide st h
section
variable {X:Cx}{tg:Expr}
noncomputable def iStr (tl:TE):TI:=fun σ H R=>tl σ H fun x H1=>∃z,x=.str z∧R (Its z) H1
theorem ip {l:Expr}{tl:TE}(hl:PE X l tl):PI X tg l (iStr tl):=by
 intro ad s σ H R I h;refine thn (hl ad s σ H _ I h) fun v s1 W'=>?_;obtain⟨x,H1,I1,r1,q1⟩:=W';obtain⟨z,rfl,q⟩:=q1;obtain⟨t,rfl⟩:=r1;have fp:∀b∈[s1.heap.objs.size],FpOk X ad H1 b:=fun b hb=>by
  have e:b=s1.heap.objs.size:=by simpa using hb
  subst e;exact I1.fpOk (Nat.le_refl _) (I1.hok.fresh (Nat.le_refl _))
 cases ha:z.cps.all (· < 128)
 ·refine wpAny_pyIter_wide ha ?_;exact⟨s1.heap.objs.size,[s1.heap.objs.size],_,_,H1,rfl,I1.kept (t':=s1.toks) fun b o e=>Heap.get?_push_of_some _ e,vp _ z t,⟨_,Heap.get?_push_size _ rfl,rfl,rfl⟩,fp,q⟩
 ·refine wpAny_pyIter_ascii ha ?_;exact⟨s1.heap.objs.size,[s1.heap.objs.size],_,_,H1,rfl,I1.kept (t':=s1.toks) fun b o e=>Heap.get?_push_of_some _ e,vo _ z t,⟨_,Heap.get?_push_size _ rfl,rfl,rfl⟩,fp,q⟩
end
theorem vv {z:Str}{g:TG}{tb:TS}{D:Ends}{σ:St}{H:Hp}(Pv:Nat->St->Hp->Prop)(h0:Pv 0 σ H)
  (hs:∀i c σ H,z.cps.toList[i]?=some c->Pv i σ H->g (.str ⟨#[c]⟩) σ H fun σ2 H2=>tb {D with nx:=Pv (i+1),ct:=Pv (i+1),bk:=D.nx} σ2 H2) (hd:∀σ H,Pv z.length σ H->D.nx σ H) :
  ∃W:Nat->Nat->St->Hp->Prop,(∃m,W 0 m σ H)∧∀i m σ H,W i m σ H ->
   ((Its z).stop i H∧D.nx σ H)∨((Its z).go i H∧∃N:St->Hp->Prop,(∀σ' H',N σ' H'->∃m',m' < m∧W (i+1) m' σ' H')∧∀x H',(Its z).yld i H x H'->g x σ H' fun σ2 H2=>tb {D with nx:=N,ct:=N,bk:=D.nx} σ2 H2):=by
 refine⟨fun i m σ H=>m=z.length - i∧i≤z.length∧Pv i σ H,⟨z.length,by simp,Nat.zero_le _,h0⟩,?_⟩;rintro i m σ H ⟨rfl,hi,p⟩;by_cases ad:i < z.length
 ·refine .inr ⟨ad,Pv (i+1),fun σ' H' p'=>⟨z.length - (i+1),by lia,rfl,ad,p'⟩,fun x H' y=>?_⟩;obtain⟨e,c,hc,ex⟩:=y;subst e ex;exact hs i c σ _ hc p
 ·have e:i=z.length:=by lia
  subst e;exact .inl ⟨Nat.le_refl _,hd σ H p⟩
section
variable {X:Cx}
noncomputable def rSlS:V->Option Int->Option Int->Hp->VK->Prop:=fun x lo hi H Q=>∃z,x=.str z∧z.length≤sizeLine∧Q (.str (Txt.slice z lo hi)) H
theorem vw:SlR X rSlS:=by
 intro ad s σ H x v vl vu lo hi sl Q I rx hs pl pu h;obtain⟨z,rfl,hz,q⟩:=h;obtain⟨t,rfl⟩:=rx;refine⟨"str",_,F.slot_str_getitem.lookup,typeIs_str _ _ _,?_⟩;obtain⟨o,ho,hc,hd⟩:=hs;cases pl with
 |none=>
  cases pu with
  |none=>exact wpAny_getItem_str_slice (l:=none) (u:=none) (st:=none) ⟨o,ho,hc,hd⟩ rfl (post_val_or_str ⟨Nat.le_trans (Txt.slice_le z none none) hz,fun t' k=>⟨.str (Txt.slice z none none),H,I.tok k,⟨t',rfl⟩,q⟩⟩)
  |int j uj=>exact wpAny_getItem_str_slice (l:=none) (u:=some (j,uj)) (st:=none) ⟨o,ho,hc,hd⟩ rfl (post_val_or_str ⟨Nat.le_trans (Txt.slice_le z none (some j)) hz,fun t' k=>⟨.str (Txt.slice z none (some j)),H,I.tok k,⟨t',rfl⟩,q⟩⟩)
 |int i ui=>
  cases pu with
  |none=>exact wpAny_getItem_str_slice (l:=some (i,ui)) (u:=none) (st:=none) ⟨o,ho,hc,hd⟩ rfl (post_val_or_str ⟨Nat.le_trans (Txt.slice_le z (some i) none) hz,fun t' k=>⟨.str (Txt.slice z (some i) none),H,I.tok k,⟨t',rfl⟩,q⟩⟩)
  |int j uj=>exact wpAny_getItem_str_slice (l:=some (i,ui)) (u:=some (j,uj)) (st:=none) ⟨o,ho,hc,hd⟩ rfl (post_val_or_str ⟨Nat.le_trans (Txt.slice_le z (some i) (some j)) hz,fun t' k=>⟨.str (Txt.slice z (some i) (some j)),H,I.tok k,⟨t',rfl⟩,q⟩⟩)
noncomputable def rSl (K:W.Frag):V->Option Int->Option Int->Hp->VK->Prop:=fun x lo hi H Q=>rSlL K x lo hi H Q∨rSlS x lo hi H Q
theorem vx:SlR X (rSl X.K):=mD.or vw
noncomputable def rIndex:V->List V->Hp->VK->Prop:=fun x vs H Q=>match x,vs with
 |.str z,[.str y]=>∃i r,Builtin.Str.occurrences z y 0 z.length 1=i::r∧Q (.int (i:Nat)) H
 |_,_=>False
theorem vy {z y:Str}{H:Hp}{Q:VK}:(rIndex (.str z) [.str y] H Q)=(∃i r,Builtin.Str.occurrences z y 0 z.length 1=i::r∧Q (.int (i:Nat)) H):=rfl
theorem mK:MtR X "str.index" rIndex:=by
 intro pins s σ H x vs v us Q I rx rv h;unfold rIndex at h;split at h
 rotate_left
 ·exact h.elim
 rename_i z y;obtain⟨i,r,ho,q⟩:=h;obtain⟨t,rfl⟩:=rx;obtain⟨u,rfl,t',rfl⟩:=vals1 rv;exact SC.index ho ⟨.int (i:Nat),H,I.tok _,⟨_,rfl⟩,q⟩
noncomputable def rUpper:V->List V->Hp->VK->Prop:=fun x vs H Q=>match x,vs with
 |.str z,[]=>(∀c∈z.cps.toList,c < 128)∧z.length≤1000000∧Q (.str ⟨z.cps.map up1⟩) H
 |_,_=>False
theorem vz {z:Str}{H:Hp}{Q:VK}:(rUpper (.str z) [] H Q)=((∀c∈z.cps.toList,c < 128)∧z.length≤1000000∧Q (.str ⟨z.cps.map up1⟩) H):=rfl
noncomputable def rLower:V->List V->Hp->VK->Prop:=fun x vs H Q=>match x,vs with
 |.str z,[]=>(∀c∈z.cps.toList,c < 128)∧z.length≤1000000∧Q (.str ⟨z.cps.map lo1⟩) H
 |_,_=>False
theorem w4 {z:Str}{H:Hp}{Q:VK}:(rLower (.str z) [] H Q)=((∀c∈z.cps.toList,c < 128)∧z.length≤1000000∧Q (.str ⟨z.cps.map lo1⟩) H):=rfl
noncomputable def rAlnum:V->List V->Hp->VK->Prop:=fun x vs H Q=>match x,vs with
 |.str z,[]=>Q (.bl (Txt.isalnum z)) H
 |_,_=>False
theorem w6 {z:Str}{H:Hp}{Q:VK}:(rAlnum (.str z) [] H Q)=(Q (.bl (Txt.isalnum z)) H):=rfl
theorem wA {ys:List Str}:∀{us:List Value},Vals (ys.map V.str) us->StrsAre us ys:=by
 induction ys with
 |nil=>intro us r;rw[map_nil] at r;cases r;exact .nil
 |cons y ys ih=>
  intro us r;rw[map_cons] at r;cases r with
  |cons r1 r2=>obtain⟨t,e⟩:=r1;subst e;exact .cons y t (ih r2)
noncomputable def rJoin (K:W.Frag):V->List V->Hp->VK->Prop:=fun x vs H Q=>∃z p ys,x=.str z∧vs=[.ref p]∧SqL K H p (ys.map V.str)∧(ys.map (·.length)).sum+ys.length * z.length≤16777216∧Q (.str (Txt.join z ys)) H
theorem wB:MtR X "str.join" (rJoin X.K):=by intro pins s σ H x vs v us Q I rx rv h;obtain⟨z,p,ys,rfl,rfl,hq,hz,q⟩:=h;obtain⟨t,rfl⟩:=rx;obtain⟨u,rfl,ru⟩:=vals1 rv;cases ru;obtain⟨its,r,pl,hl⟩:=I.list hq;exact join_list pl.isList (by simpa using wA r) hz fun t' k=>⟨.str (Txt.join z ys),H,I.tok k,⟨t',rfl⟩,q⟩
noncomputable def rIsi (K:W.Frag):List V->Hp->VK->Prop:=fun vs H Q=>∃x T t b,vs=[x,.ty T]∧TyOf K H x t∧PySem.W.kitOne K t (.type T)=some b∧Q (.bl b) H
theorem wC:CallR X (.builtin "isinstance") (rIsi X.K):=by intro pins s σ H xs us Q I r h;obtain⟨x,T,t,b,rfl,ty,e,q⟩:=h;obtain⟨u,v,rfl,ru,rv⟩:=vals2 r;cases (show v=Value.type T from rv);exact vC I ru ty e fun tk=>⟨.bl b,H,I.tok tk,rfl,q⟩
noncomputable def rCatD:R2:=fun x y H Q=>∃a b xs ys,x=.ref a∧y=.ref b∧H a=some (.tup xs)∧H b=some (.tup ys)∧xs.length+ys.length≤sizeLine∧∀p H',Same H H'->H' p=some (.tup (xs++ys))->Q (.ref p) H'
theorem wD:OpR X (binaryOp .Add) rCatD:=by
 intro ad s σ H x y v u Q I rx ry h;obtain⟨a,b,xs,ys,rfl,rfl,ha,hb,hz,q⟩:=h;by_cases hx:xs=[]
 ·subst hx;cases rx;cases ry;obtain⟨Fz,r1,p1,_⟩:=I.tuple (SqT.of ha);obtain⟨dl,r2,p2,_⟩:=I.tuple (SqT.of hb);cases r1;obtain⟨⟨cls,dd,Fx,sl⟩,ho,hc,n,hd⟩:=id p1;obtain⟨⟨Fy,Fr,Cl,Fn⟩,ld,BT,n2,mt⟩:=id p2;simp only at hc hd BT mt;subst hc hd BT mt;exact concat_meets ⟨_,ho,rfl⟩ ⟨_,ld,rfl⟩ noFill_tuple_add seq_tuple_add PySem.F.slot_tuple_add PySem.F.entry_tuple_add (PySem.F.args_tuple_add_2 _ _)
   (tuple_addW0 a b ([]:List Value).toArray dl.toArray n n2 dd Fr sl Fn rfl) ⟨ho,ld,⟨.ref b,H,I,rfl,q b H (Same.refl _) hb⟩⟩
 ·refine vN ad s σ H _ _ v u Q I rx ry ⟨a,b,xs,ys,rfl,rfl,SqT.of ha,SqT.of hb,hx,hz,fun e=>q a H (Same.refl _) (by rw[e,append_nil];exact ha),fun _ p hp=>q p _ (fun b o e=>by rw[aN (aY e hp)];exact e) aL⟩
noncomputable def rAddU (K:W.Frag):R2:=fun x y H Q=>match x,y with
 |.int i,.int j=>Q (.int (i+j)) H
 |.str i,.str j=>i.length+j.length≤sizeLine∧Q (.str (i++j)) H
 |.ref a,.ref b=>(∃xs zs,H a=some (.lst xs)∧H b=some (.lst zs)∧xs.length+zs.length≤sizeLine∧∀p,H p=none->Q (.ref p) (upd H p (.lst (xs++zs)))) ∨
   (∃xs ys,H a=some (.tup xs)∧H b=some (.tup ys)∧xs.length+ys.length≤sizeLine∧∀p H',Same H H'->H' p=some (.tup (xs++ys))->Q (.ref p) H')
 |_,_=>False
theorem mL:OpR X (binaryOp .Add) (rAddU X.K):=by
 intro ad s σ H x y v u Q I rx ry h;cases x with
 |int i=>
  cases y with
  |int j=>exact uc ad s σ H _ _ v u Q I rx ry ⟨i,j,rfl,rfl,h⟩
  |_=>exact h.elim
 |str i=>
  cases y with
  |str j=>exact um ad s σ H _ _ v u Q I rx ry ⟨i,j,rfl,rfl,h.1,h.2⟩
  |_=>exact h.elim
 |ref a=>
  cases y with
  |ref b=>
   rcases h with⟨xs,zs,h1,h2,h3,h4⟩|⟨xs,ys,h1,h2,h3,h4⟩
   ·exact vg ad s σ H _ _ v u Q I rx ry ⟨a,b,xs,zs,rfl,rfl,h1,h2,h3,h4⟩
   ·exact wD ad s σ H _ _ v u Q I rx ry ⟨a,b,xs,ys,rfl,rfl,h1,h2,h3,h4⟩
  |_=>exact h.elim
 |_=>exact h.elim
theorem wE {K:W.Frag}{i j:Int}{H:Hp}{Q:VK}:(rAddU K (.int i) (.int j) H Q)=(Q (.int (i+j)) H):=rfl
theorem wF {K:W.Frag}{i j:Str}{H:Hp}{Q:VK}:(rAddU K (.str i) (.str j) H Q)=(i.length+j.length≤sizeLine∧Q (.str (i++j)) H):=rfl
end
section
variable {X:Cx}
noncomputable def rMulU:R2:=fun x y H Q=>match x,y with
 |.int i,.int j=>CMul i j∧Q (.int (i * j)) H
 |.str z,.int k=>MulOk z k∧Q (.str (Txt.mul z k)) H
 |_,_=>False
theorem bf:OpR X (binaryOp .Mult) rMulU:=by
 intro ad s σ H x y v u Q I rx ry h;cases x with
 |int i=>
  cases y with
  |int j=>exact ud ad s σ H _ _ v u Q I rx ry ⟨i,j,rfl,rfl,h.1,h.2⟩
  |_=>exact h.elim
 |str z=>
  cases y with
  |int k=>obtain⟨t,rfl⟩:=rx;obtain⟨t',rfl⟩:=ry;exact SB.mul h.1 fun t' k'=>⟨.str (Txt.mul z k),H,I.tok k',⟨t',rfl⟩,h.2⟩
  |_=>exact h.elim
 |_=>exact h.elim
theorem wG {i j:Int}{H:Hp}{Q:VK}:(rMulU (.int i) (.int j) H Q)=(CMul i j∧Q (.int (i * j)) H):=rfl
theorem wH {z:Str}{k:Int}{H:Hp}{Q:VK}:(rMulU (.str z) (.int k) H Q)=(MulOk z k∧Q (.str (Txt.mul z k)) H):=rfl
noncomputable def rLenU (K:W.Frag):List V->Hp->VK->Prop:=fun xs H Q=>match xs with
 |[.str z]=>z.length≤sizeLine∧Q (.int z.length) H
 |[.ref p]=>∃ys,(SqL K H p ys∨SqT K H p ys)∧Q (.int ys.length) H
 |_=>False
theorem wI:CallR X (.builtin "len") (rLenU X.K):=by
 intro pins s σ H xs us Q I r h;unfold rLenU at h;split at h
 ·exact va pins s σ H _ us Q I r ⟨_,rfl,h.1,h.2⟩
 ·obtain⟨ys,h1,h2⟩:=h;exact vZ pins s σ H _ us Q I r ⟨_,ys,rfl,h1,h2⟩
 ·exact h.elim
theorem wJ {K:W.Frag}{z:Str}{H:Hp}{Q:VK}:(rLenU K [.str z] H Q)=(z.length≤sizeLine∧Q (.int z.length) H):=rfl
theorem cX {K:W.Frag}{p:Addr}{H:Hp}{Q:VK}:(rLenU K [.ref p] H Q)=(∃ys,(SqL K H p ys∨SqT K H p ys)∧Q (.int ys.length) H):=rfl
noncomputable def rOrdU:List V->Hp->VK->Prop:=fun xs H Q=>match xs with
 |[.str z]=>z.length=1∧Q (.int (z.cps.getD 0 0:Nat)) H
 |_=>False
theorem iq:CallR X (.builtin "ord") rOrdU:=by
 intro pins s σ H xs us Q I r h;unfold rOrdU at h;split at h
 ·exact ur pins s σ H _ us Q I r ⟨_,rfl,h.1,h.2⟩
 ·exact h.elim
theorem wK {c:Nat}{H:Hp}{Q:VK}:rOrdU [.str ⟨#[c]⟩] H Q↔Q (.int (c:Nat)) H:=⟨fun h=>h.2,fun h=>⟨rfl,h⟩⟩
theorem cG:bootBuiltins "int"=some (.type "int"):=by decide +kernel
theorem cH:bootBuiltins "str"=some (.type "str"):=by decide +kernel
theorem mM:bootBuiltins "bool"=some (.type "bool"):=by decide +kernel
theorem bw:bootBuiltins "tuple"=some (.type "tuple"):=by decide +kernel
theorem ir:bootBuiltins "list"=some (.type "list"):=by decide +kernel
theorem iu:bootBuiltins "ord"=some (.builtin "ord"):=by decide +kernel
theorem bK:bootBuiltins "isinstance"=some (.builtin "isinstance"):=by decide +kernel
noncomputable def rIntU:List V->Hp->VK->Prop:=fun xs H Q=>match xs with
 |[.int i]=>Q (.int i) H
 |[.bl k]=>Q (.int (if k then 1 else 0)) H
 |_=>False
theorem ff:CallR X (.type "int") rIntU:=by
 intro pins s σ H xs us Q I r h;unfold rIntU at h;split at h
 ·exact ll pins s σ H _ us Q I r (.inl ⟨_,rfl,h⟩)
 ·exact ll pins s σ H _ us Q I r (.inr ⟨_,rfl,h⟩)
 ·exact h.elim
theorem wL {k:Bool}{H:Hp}{Q:VK}:(rIntU [.bl k] H Q)=(Q (.int (if k then 1 else 0)) H):=rfl
noncomputable def rInU:R2:=fun x y H Q=>match x,y with
 |.str i,.str j=>Q (.bl (!(Builtin.Str.occurrences j i 0 j.length 1).isEmpty)) H
 |_,_=>False
theorem cI:OpR X (compareOp .In) rInU:=by
 intro pins s σ H x y v u Q I rx ry h;cases x with
 |str i=>
  cases y with
  |str j=>exact ug pins s σ H _ _ v u Q I rx ry ⟨i,j,rfl,rfl,h⟩
  |_=>exact h.elim
 |_=>exact h.elim
noncomputable def rNotInU:R2:=fun x y H Q=>match x,y with
 |.str i,.str j=>Q (.bl (!(!(Builtin.Str.occurrences j i 0 j.length 1).isEmpty))) H
 |_,_=>False
theorem wM {c:Nat}{j:Str}{H:Hp}{Q:VK}:rInU (.str ⟨#[c]⟩) (.str j) H Q↔Q (.bl (decide (c∈j.cps.toList))) H:=by show Q (.bl (!(Builtin.Str.occurrences j ⟨#[c]⟩ 0 j.length 1).isEmpty)) H↔_;rw[StrLaws.found_one]
theorem wN {c:Nat}{j:Str}{H:Hp}{Q:VK}:rNotInU (.str ⟨#[c]⟩) (.str j) H Q↔Q (.bl (!decide (c∈j.cps.toList))) H:=by show Q (.bl (!(!(Builtin.Str.occurrences j ⟨#[c]⟩ 0 j.length 1).isEmpty))) H↔_;rw[StrLaws.found_one]
noncomputable def rIsN (neg:Bool):R2:=fun x y H Q=>y=.non∧Q (.bl (if neg then !decide (x=.non) else decide (x=.non))) H
theorem bL:OpR X (compareOp .Is) (rIsN false):=fun pins s σ H x y v u Q I rx ry h=>uh pins s σ H x y v u Q I rx ry h
theorem mN:OpR X (compareOp .IsNot) (rIsN true):=fun pins s σ H x y v u Q I rx ry h=>uk pins s σ H x y v u Q I rx ry h
theorem wO {x:V}{H:Hp}{Q:VK}:rIsN false x .non H Q↔Q (.bl (decide (x=.non))) H:=⟨fun h=>h.2,fun h=>⟨rfl,h⟩⟩
theorem wP {x:V}{H:Hp}{Q:VK}:rIsN true x .non H Q↔Q (.bl (!decide (x=.non))) H:=⟨fun h=>h.2,fun h=>⟨rfl,h⟩⟩
noncomputable def kindV (x:V)(H:Hp):Option String:=match x with
 |.non=>some "NoneType"
 |.bl _=>some "bool"
 |.int _=>some "int"
 |.str _=>some "str"
 |.ref a=>match H a with
  |some (.lst _)=>some "list"
  |some (.tup _)=>some "tuple"
  |some (.dK _)=>some "dict"
  |_=>none
 |_=>none
noncomputable def subT (a b:String):Bool:=a == b || (a == "bool" && b == "int")
theorem wQ (K:W.Frag):∀a∈["NoneType","bool","int","str","list","tuple","dict"],∀b∈["bool","int","str","list","tuple"],PySem.W.kitOne K (.type a) (.type b)=some (subT a b):=by intro a ha b hb;simp only[mem_cons,not_mem_nil,or_false] at ha hb;rcases ha with rfl|rfl|rfl|rfl|rfl|rfl|rfl <;> rcases hb with rfl|rfl|rfl|rfl|rfl <;> with_unfolding_all kernel_rfl
noncomputable def rIsiU:List V->Hp->VK->Prop:=fun vs H Q=>match vs with
 |[x,.ty T]=>∃k,kindV x H=some k∧T∈["bool","int","str","list","tuple"]∧Q (.bl (subT k T)) H
 |_=>False
theorem bM:CallR X (.builtin "isinstance") rIsiU:=by
 intro ad s σ H xs us Q I r h;unfold rIsiU at h;split at h
 ·rename_i x T;obtain⟨k,hk,hT,q⟩:=h;have dl:TyOf X.K H x (.type k)∧k∈["NoneType","bool","int","str","list","tuple","dict"]:=by
   unfold kindV at hk;split at hk
   ·cases hk;exact⟨.non,by decide⟩
   ·cases hk;exact⟨.bl _,by decide⟩
   ·cases hk;exact⟨.int _,by decide⟩
   ·cases hk;exact⟨.str _,by decide⟩
   ·split at hk
    ·rename_i e;cases hk;exact⟨.lst e,by decide⟩
    ·rename_i e;cases hk;exact⟨.tup e,by decide⟩
    ·rename_i e;cases hk;exact⟨.dK e,by decide⟩
    ·cases hk
   ·cases hk
  exact wC ad s σ H _ us Q I r ⟨x,T,.type k,subT k T,rfl,dl.1,wQ X.K k dl.2 T hT,q⟩
 ·exact h.elim
end
section
variable {σ:St}{H:Hp}{Q:VK}{D:Ends}{K:W.Frag}{ta tb te:TE}{tt tu:TT}{t u:TS}{aa ab:TA}{v x y:V}{r r':R2}
theorem wR {i:Nat}:(tVar i σ H Q)=(∃v,σ[i]?=some (some v)∧Q v H):=rfl
theorem rd_C:(tC v σ H Q)=(Q v H):=rfl
theorem iv:(tSeq t u D σ H)=(t {D with nx:=u D} σ H):=rfl
theorem wS {g:TG}:(tAsg te g D σ H)=(te σ H fun x H1=>g x σ H1 D.nx):=rfl
theorem wU {i:Nat}{R:St->Hp->Prop}:(gName i v σ H R)=(R (σ.set i (some v)) H):=rfl
theorem wV:(tIfS tt t u D σ H)=(tt σ H fun b H1=>if b=true then t D σ H1 else u D σ H1):=rfl
theorem wW:(tNext D σ H)=(D.nx σ H):=rfl
theorem wX:(tBreak D σ H)=(D.bk σ H):=rfl
theorem wY:(tRet te D σ H)=(te σ H D.rt):=rfl
theorem wZ:(tDrop te D σ H)=(te σ H fun _ H1=>D.nx σ H1):=rfl
theorem wa:(tOp r ta tb σ H Q)=(ta σ H fun x H1=>tb σ H1 fun y H2=>r x y H2 Q):=rfl
theorem wc {R:Bool->Hp->Prop}:(tTest te σ H R)=(te σ H fun x H'=>∃k,x=.bl k∧R k H'):=rfl
theorem rd_B {R:Bool->Hp->Prop}:(tB te σ H R)=(te σ H fun x H'=>∃k,x=.bl k∧R k H'):=rfl
theorem wd {R:Bool->Hp->Prop}:(tAnd tt tu σ H R)=(tt σ H fun c H1=>if c=true then tu σ H1 R else R false H1):=rfl
theorem we {R:Bool->Hp->Prop}:(tOr tt tu σ H R)=(tt σ H fun c H1=>if c=true then R true H1 else tu σ H1 R):=rfl
theorem wg {R:Bool->Hp->Prop}:(tNot tt σ H R)=(tt σ H fun c H1=>R (!c) H1):=rfl
theorem wj:(tAndV ta tb σ H Q)=(ta σ H fun x H1=>∃c,x=.bl c∧if c=true then tb σ H1 Q else Q (.bl false) H1):=rfl
theorem wk:(tOrV ta tb σ H Q)=(ta σ H fun x H1=>∃c,x=.bl c∧if c=true then Q (.bl true) H1 else tb σ H1 Q):=rfl
theorem wl:(tNotV ta σ H Q)=(ta σ H fun x H1=>∃c,x=.bl c∧Q (.bl (!c)) H1):=rfl
theorem wm:(tIf tt ta tb σ H Q)=(tt σ H fun c H1=>if c=true then ta σ H1 Q else tb σ H1 Q):=rfl
theorem wn {tc:TE}:(tChain r r' ta tb tc σ H Q)=(ta σ H fun x H1=>tb σ H1 fun y H2=>r x y H2 fun z H3=>∃k,z=.bl k∧(if k=true then tc σ H3 fun w' H4=>r' y w' H4 Q else Q (.bl false) H3)):=rfl
theorem wo {R:List V->Hp->Prop}:(tNil σ H R)=(R [] H):=rfl
theorem wp {R:List V->Hp->Prop}:(tCons te aa σ H R)=(te σ H fun x H1=>aa σ H1 fun xs H2=>R (x::xs) H2):=rfl
theorem wq:(tLst aa σ H Q)=(aa σ H fun xs H1=>xs.length≤sizeLine∧∀p,H1 p=none->Q (.ref p) (upd H1 p (.lst xs))):=rfl
theorem wt:(tTup aa σ H Q)=(aa σ H fun xs H1=>xs.length≤sizeLine∧∀p,H1 p=none->Q (.ref p) (upd H1 p (.tup xs))):=rfl
theorem wu {sp:Sp}{dvs:List V}{E:XK}:(tCall sp dvs E aa σ H Q)=(aa σ H fun vs H1=>sp (vs++dvs) H1 Q E):=rfl
theorem ww {c:List V->Hp->VK->Prop}:(tCB c aa σ H Q)=(aa σ H fun vs H1=>c vs H1 Q):=rfl
theorem wx {T:String}{m:V->List V->Hp->VK->Prop}:(tBM K T m te aa σ H Q)=(te σ H fun x H1=>tyV K T x H1∧aa σ H1 fun xs H2=>m x xs H2 Q):=rfl
theorem wy {T:String}{m:V->List V->Hp->VK->Prop}:(tBM0 K T m te σ H Q)=(te σ H fun x H1=>tyV K T x H1∧m x [] H1 Q):=rfl
theorem x6 {m:V->Option Int->Option Int->Hp->VK->Prop}{tl th:TO}:(tSl m te tl th σ H Q)=(te σ H fun x H1=>tl σ H1 fun l H2=>th σ H2 fun u H3=>m x l u H3 Q):=rfl
theorem x8 {R:Option Int->Hp->Prop}:(tNoPart σ H R)=(R none H):=rfl
theorem x9 {R:Option Int->Hp->Prop}:(tPart te σ H R)=(te σ H fun x H1=>∃i,x=.int i∧R (some i) H1):=rfl
theorem xA {z:Str}:tyV K "str" (.str z) H↔True:=⟨fun _=>trivial,fun _=>rfl⟩
theorem rd_I {C:Int->Int->Prop}{g:Int->Int->V}{i j:Int}:rI C g (.int i) (.int j) H Q↔C i j∧Q (g i j) H:=
 ⟨fun⟨_,_,h1,h2,h3⟩=>by cases h1;cases h2;exact h3,fun h=>⟨i,j,rfl,rfl,h⟩⟩
theorem fh {g:Int->Int->V}{i j:Int}:rI0 g (.int i) (.int j) H Q↔Q (g i j) H:=
 ⟨fun⟨_,_,h1,h2,h3⟩=>by cases h1;cases h2;exact h3,fun h=>⟨i,j,rfl,rfl,h⟩⟩
theorem xB {i j:Int}:rEq (.int i) (.int j) H Q↔Q (.bl (decide (i=j))) H:=by unfold rEq scal;simp only[true_and,V.int.injEq]
theorem aX {i j:Str}:rEq (.str i) (.str j) H Q↔Q (.bl (decide (i=j))) H:=by unfold rEq scal;simp only[true_and,V.str.injEq]
theorem xC {i j:Bool}:rEq (.bl i) (.bl j) H Q↔Q (.bl (decide (i=j))) H:=by unfold rEq scal;simp only[true_and,V.bl.injEq]
theorem iw {i j:Int}:rNe (.int i) (.int j) H Q↔Q (.bl (!decide (i=j))) H:=by unfold rNe scal;simp only[true_and,V.int.injEq]
theorem fi {i j:Str}:rNe (.str i) (.str j) H Q↔Q (.bl (!decide (i=j))) H:=by unfold rNe scal;simp only[true_and,V.str.injEq]
theorem mO {i j:Bool}:rNe (.bl i) (.bl j) H Q↔Q (.bl (!decide (i=j))) H:=by unfold rNe scal;simp only[true_and,V.bl.injEq]
theorem xD:rNe .non .non H Q↔Q (.bl false) H:=⟨fun h=>h.2,fun h=>⟨rfl,h⟩⟩
theorem xE {i:Str}:rNe (.str i) .non H Q↔Q (.bl true) H:=⟨fun h=>h.2,fun h=>⟨rfl,h⟩⟩
theorem xF {i:Str}:rNe .non (.str i) H Q↔Q (.bl true) H:=⟨fun h=>h.2,fun h=>⟨rfl,h⟩⟩
theorem xG:rEq .non .non H Q↔Q (.bl true) H:=⟨fun h=>h.2,fun h=>⟨rfl,h⟩⟩
theorem xH {i:Str}:rEq (.str i) .non H Q↔Q (.bl false) H:=⟨fun h=>h.2,fun h=>⟨rfl,h⟩⟩
theorem xI {i:Str}:rEq .non (.str i) H Q↔Q (.bl false) H:=⟨fun h=>h.2,fun h=>⟨rfl,h⟩⟩
theorem xJ {z:Str}{i:Int}:rIx K (.str z) (.int i) H Q↔∃c,z.length≤sizeLine∧atI z.cps.toList i=some c∧Q (.str ⟨#[c]⟩) H:=by
 constructor
 ·rintro (⟨p,xs,j,v,h,_⟩|⟨p,xs,j,v,h,_⟩|⟨z',j,c,h1,h2,h3,h4,h5⟩)
  ·cases h
  ·cases h
  ·cases h1;cases h2;exact⟨c,h3,h4,h5⟩
 ·rintro⟨c,h3,h4,h5⟩;exact .inr (.inr ⟨z,i,c,rfl,rfl,h3,h4,h5⟩)
theorem mP {z:Str}{lo hi:Option Int}:rSl K (.str z) lo hi H Q↔z.length≤sizeLine∧Q (.str (Txt.slice z lo hi)) H:=by
 constructor
 ·rintro (⟨a,xs,h,_⟩|⟨z',h1,h2,h3⟩)
  ·cases h
  ·cases h1;exact⟨h2,h3⟩
 ·rintro⟨h2,h3⟩;exact .inr ⟨z,rfl,h2,h3⟩
end
section
variable {σ:St}{H:Hp}{Q:VK}{K:W.Frag}
theorem xK {a:Addr}{lo hi:Option Int}:rSl K (.ref a) lo hi H Q↔∃xs,SqL K H a xs∧∀p,H p=none->Q (.ref p) (upd H p (.lst (cutV xs lo hi))):=by
 constructor
 ·rintro (⟨a',xs,h,h2⟩|⟨z',h1,_⟩)
  ·cases h;exact⟨xs,h2⟩
  ·cases h1
 ·rintro⟨xs,h2⟩;exact .inl ⟨a,xs,rfl,h2⟩
theorem az {p:Addr}{i:Int}:rIx K (.ref p) (.int i) H Q↔∃xs v,(SqL K H p xs∨SqT K H p xs)∧atI xs i=some v∧Q v H:=by
 constructor
 ·rintro (⟨p',xs,j,v,h,h2,h3,h4⟩|⟨p',xs,j,v,h,h2,h3,h4⟩|⟨z',j,c,h1,_⟩)
  ·cases h;cases h2;exact⟨xs,v,.inl h3,h4⟩
  ·cases h;cases h2;exact⟨xs,v,.inr h3,h4⟩
  ·cases h1
 ·rintro⟨xs,v,h|h,h2⟩
  ·exact .inl ⟨p,xs,i,v,rfl,rfl,h,h2⟩
  ·exact .inr (.inl ⟨p,xs,i,v,rfl,rfl,h,h2⟩)
theorem xL {a b:Addr}:rAddU K (.ref a) (.ref b) H Q↔(∃xs zs,H a=some (.lst xs)∧H b=some (.lst zs)∧xs.length+zs.length≤sizeLine∧∀p,H p=none->Q (.ref p) (upd H p (.lst (xs++zs)))) ∨
   (∃xs ys,H a=some (.tup xs)∧H b=some (.tup ys)∧xs.length+ys.length≤sizeLine∧∀p H',Same H H'->H' p=some (.tup (xs++ys))->Q (.ref p) H'):=Iff.rfl
theorem cx_K {CX:CXT}{P:Program}{w:World}{mg:Str->Option Value}{base:Heap}{N:List Str}{qual:Str}{scope:Scope}{f:Addr}{cd:Value}{A:Around}{outer:List Env}{s:Shared}{E:XK} :
  (cxOf CX P w K mg base N qual scope f cd A outer s H E).K=K:=rfl
end
noncomputable def LoopI (J:It)(g:TG)(tb:TS)(D:Ends)(σ:St)(H:Hp):Prop:=∃W:Nat->Nat->St->Hp->Prop,(∃m,W 0 m σ H)∧∀i m σ H,W i m σ H ->
 (J.stop i H∧D.nx σ H)∨(J.go i H∧∃N:St->Hp->Prop,(∀σ' H',N σ' H'->∃m',m' < m∧W (i+1) m' σ' H')∧∀x H',J.yld i H x H'->g x σ H' fun σ2 H2=>tb {D with nx:=N,ct:=N,bk:=D.nx} σ2 H2)
section
variable {σ:St}{H:Hp}{D:Ends}{K:W.Frag}{te:TE}{g:TG}{tb:TS}{aa:TA}
theorem xM:(tFor (iStr te) g tb D σ H)=(te σ H fun x H1=>∃z,x=.str z∧LoopI (Its z) g tb D σ H1):=rfl
theorem xN:(tFor (iList K te) g tb D σ H)=(te σ H fun x H1=>∃a,x=.ref a∧(∃xs,SqL K H1 a xs)∧LoopI (Itl K a) g tb D σ H1):=rfl
theorem xO:(tFor (iRng1 aa) g tb D σ H)=(aa σ H fun vs H1=>∃j:Int,vs=[.int j]∧-(2 ^ 62)≤j∧j < 2 ^ 62∧LoopI (Itr 0 j.toNat) g tb D σ H1):=rfl
theorem xP {z:Str}(Pv:Nat->St->Hp->Prop)(h0:Pv 0 σ H)
  (hs:∀i c σ H,z.cps.toList[i]?=some c->Pv i σ H->g (.str ⟨#[c]⟩) σ H fun σ2 H2=>tb {D with nx:=Pv (i+1),ct:=Pv (i+1),bk:=D.nx} σ2 H2) (hd:∀σ H,Pv z.length σ H->D.nx σ H):LoopI (Its z) g tb D σ H:=vv Pv h0 hs hd
theorem ix {a:Addr}{xs:List V}(Pv:Nat->St->Hp->Prop)(h0:Pv 0 σ H)(hl:∀i σ H,i≤xs.length->Pv i σ H->SqL K H a xs)
  (hs:∀i x σ H,xs[i]?=some x->Pv i σ H->g x σ H fun σ2 H2=>tb {D with nx:=Pv (i+1),ct:=Pv (i+1),bk:=D.nx} σ2 H2) (hd:∀σ H,Pv xs.length σ H->D.nx σ H):LoopI (Itl K a) g tb D σ H:=uZ Pv h0 hl hs hd
theorem cq {lo:Int}{n:Nat}(Pv:Nat->St->Hp->Prop)(h0:Pv 0 σ H)
  (hs:∀i σ H,i < n->Pv i σ H->g (.int (lo+i)) σ H fun σ2 H2=>tb {D with nx:=Pv (i+1),ct:=Pv (i+1),bk:=D.nx} σ2 H2) (hd:∀σ H,Pv n σ H->D.nx σ H):LoopI (Itr lo n) g tb D σ H:=ub Pv h0 hs hd
end
section
variable {prog:Program}{w:World}{A:Around}{R:Result->Shared->Prop}{s:Shared}
theorem mQ {elt target iter:Expr}{ifs:List Expr}{scope:Scope}{pos:Pos}{it acc:Value}{env:Env}(I:Nat->Shared->Prop)
  (turn:∀n s,I n s->wpAny (model prog w) A (pyNext it) (fun r s₁=>match r with
   |none=>R (.ok .next) s₁
   |some v=>wpAny (model prog w) A (letOwnedTupleGo target it v) (fun _ s₁'=>wpAny (model prog w) A (assign target env v) (fun _ s₂=>
     wpAny (model prog w) A (forIn ifs true fun c r=>if r=true then do let ok <- isTrue c env (eval c env);pure (ForInStep.yield ok) else pure (ForInStep.yield r)) (fun ok s₃=>
      if ok=true then wpAny (model prog w) A (eval elt env) (fun x s₄=>
       wpAny (model prog w) A (call (.builtin "list.append") [acc,x]) (fun _ s₅=>∃m,m < n∧I m s₅) (fun _ _=>False) s₄) (fun _ _=>False) s₃
      else ∃m,m < n∧I m s₃) (fun _ _=>False) s₂) (fun _ _=>False) s₁') (fun _ _=>False) s₁) (fun _ _=>False) s)
  (n:Nat) (h:I n s):codeAny (model prog w) A (.compLoop (.ListComp elt [⟨target,iter,ifs,0⟩] scope pos) 0 it acc env) R s:=by
 refine codeAny_loop rfl I (fun n s hI=>?_) n h;show wpAny _ A ((compTurn (.ListComp elt [⟨target,iter,ifs,0⟩] scope pos) 0 it acc env).onRaise (fun x=>do noteFrame x env;theTreesLotGoes x)) _ _ s;refine wpAny_noted ?_;rw[compTurn_list];refine wpAny_bind (wpAny_standAt (wpAny_bind (wpAny_mono (turn n s hI) (fun r s₁ h₁=>?_) fun _ _ h'=>h'.elim)));cases r with
 |none=>exact wpAny_pure h₁
 |some v=>
  refine wpAny_bind (wpAny_mono h₁ (fun _ s₁' ad=>wpAny_bind (wpAny_mono ad (fun _ s₂ h₂=>wpAny_bind (wpAny_mono h₂ (fun ok s₃ h₃=>?_) fun _ _ h'=>h'.elim)) fun _ _ h'=>h'.elim)) fun _ _ h'=>h'.elim);cases ok with
  |false=>exact wpAny_pure ⟨rfl,h₃⟩
  |true=>exact wpAny_bind (wpAny_bind (wpAny_mono h₃ (fun x s₄ h₄=>wpAny_bind (wpAny_mono h₄ (fun _ s₅ h₅=>wpAny_pure (wpAny_pure ⟨rfl,h₅⟩)) fun _ _ h'=>h'.elim)) fun _ _ h'=>h'.elim))
end
noncomputable def compCx (X:Cx)(N':List Str)(scope:Scope)(cl:List (Str×Addr))(s:Shared)(H:Hp)(fp:List Addr):Cx:=
 { X with N:=N',s₀:=s,H₀:=H,env:=compEnvC scope cl s.heap.objs.size X.env,outer:=X.stack,stack:=X.stack,ex:=fp,fn:=fun _=>false,pn:=[],xe:=fun _ _=>False}
inductive Frees (X:Cx)(rs:Scope)(cl:List (Str×Addr)):List Str->List Nat->Prop where
 |nil:Frees X rs cl [] []
 |cons {y:Str}{i:Nat}{fx:List Str}{fr:List Nat} (h1:X.N[i]?=some y) (h2:X.env.kindOf y=some .cell) (h3:rs.names.lookup y=some .cell) (h4:cl.lookup y=X.env.cells.lookup y) (r:Frees X rs cl fx fr):Frees X rs cl (y::fx) (i::fr)
noncomputable def frV (σ:St)(fr:List Nat):St:=fr.map fun i=>(σ[i]?).getD none
theorem Frees.len {X:Cx}{rs:Scope}{cl:List (Str×Addr)}{fx:List Str}{fr:List Nat}(F:Frees X rs cl fx fr):fr.length=fx.length:=by
 induction F with
 |nil=>rfl
 |cons _ _ _ _ _ ih=>simp[ih]
theorem Frees.at {X:Cx}{rs:Scope}{cl:List (Str×Addr)}{σ:St}:∀{fx:List Str}{fr:List Nat},Frees X rs cl fx fr->∀(j:Nat) (y:Str) (v:V),fx[j]?=some y->(frV σ fr)[j]?=some (some v) ->
  ∃i:Nat,X.N[i]?=some y∧σ[i]?=some (some v)∧X.env.kindOf y=some .cell∧rs.names.lookup y=some .cell∧cl.lookup y=X.env.cells.lookup y
 |_,_,.nil,j,y,v,h,_=>by simp at h
 |_,_,.cons (y:=z) (i:=i) h1 h2 h3 h4 r,0,y,v,h,hv=>by
  simp only[List.getElem?_cons_zero,Option.some.injEq] at h;subst h;simp only[frV,map_cons,List.getElem?_cons_zero,Option.some.injEq] at hv;refine⟨i,h1,?_,h2,h3,h4⟩;cases e:σ[i]? with
  |none=>rw[e] at hv;cases hv
  |some o=>rw[e] at hv;exact congrArg some hv
 |_,_,.cons h1 h2 h3 h4 r,j+1,y,v,h,hv=>by simp only[List.getElem?_cons_succ] at h;simp only[frV,map_cons,List.getElem?_cons_succ] at hv;exact r.at j y v h hv
theorem Frees.mem {X:Cx}{rs:Scope}{cl:List (Str×Addr)}:∀{fx:List Str}{fr:List Nat},Frees X rs cl fx fr->∀y∈fx,X.env.kindOf y=some .cell∧cl.lookup y=X.env.cells.lookup y
 |_,_,.nil,y,h=>by simp at h
 |_,_,.cons h1 h2 h3 h4 r,y,h=>by
  rcases mem_cons.mp h with rfl|h
  ·exact⟨h2,h4⟩
  ·exact r.mem y h
section
variable {X:Cx}{pins:List (Addr×Obj)}{σ:St}{H1:Hp}{s3:Shared}{x:Str}{fx:List Str}{fr:List Nat}{scope:Scope}{cl:List (Str×Addr)}{fp:List Addr}
theorem xQ (I:Inv X pins σ H1 s3)(hkind:scope.kind=.function)(hcl:∀y c,cl.lookup y=some c->X.env.cells.lookup y=some c)
  (F:Frees X (relabel scope X.env) cl fx fr) (hfx:((relabel scope X.env).names.all fun p=>if (p.2 == .cell || p.2 == .free) then fx.contains p.1 else true)=true)
  (ffp:∀b∈fp,FpOk X pins H1 b) (flt:∀b∈fp,b < s3.heap.objs.size):(compCx X (x::fx) scope cl s3 H1 fp).Ok where
 mod:=I.ok.mod
 kind:=hkind
 glob:=I.ok.glob
 blt:=I.ok.blt
 above:=Nat.le_refl _
 inj:=fun y z c h1 h2=>I.ok.inj y z c (hcl y c h1) (hcl z c h2)
 has:=fun y h=>by
  have h:(relabel scope X.env).names.lookup y=some .cell∨(relabel scope X.env).names.lookup y=some .free:=h;have key:y∈fx:=by
   rcases h with h|h
   ·have q:=all_eq_true.mp hfx _ (PySem.mem_of_lookup h);simpa using q
   ·have q:=all_eq_true.mp hfx _ (PySem.mem_of_lookup h);simpa using q
  obtain⟨k1,k2⟩:=F.mem y key;obtain⟨c,e⟩:=I.ok.has y (.inl k1);exact⟨c,k2.trans e⟩
 cab:=fun y c h=>by cases (show false=true from h)
 hd:=I.ok.hd
 frames:=I.ok.frames
 stk:=.inl rfl
 exf:=fun b hb=>⟨Nat.ne_of_lt (flt b hb),fun y c e=>(ffp b hb).2.2.2.2.1 y c (hcl y c e)⟩
 bs:=I.bs
 bsz:=Nat.le_trans I.ok.bsz I.sz
 noex:=fun b o e hb=>by
  rcases (ffp b hb).2.2.2.1 with z|z
  ·exact I.ok.noex b o e z
  ·exact absurd (Nat.lt_of_lt_of_le (Heap.lt_size (I.ok.bs b o e).1) z) (Nat.lt_irrefl _)
 exfs:=fun b hb z=>by
  rcases mem_cons.mp (I.stkSub b z) with q|q
  ·exact (ffp b hb).2.1 q
  ·exact (ffp b hb).2.2.1 q
 funs:=I.stack
 frf:=I.stkFree
theorem xR (I:Inv X pins σ H1 s3)(hkind:scope.kind=.function)(hcl:∀y c,cl.lookup y=some c->X.env.cells.lookup y=some c)
  (F:Frees X (relabel scope X.env) cl fx fr) (hfx:((relabel scope X.env).names.all fun p=>if (p.2 == .cell || p.2 == .free) then fx.contains p.1 else true)=true)
  (ffp:∀b∈fp,FpOk X pins H1 b) (flt:∀b∈fp,b < s3.heap.objs.size) {h1:Heap}{t:Nat}{m:Str->Option Value} (hn:h1.Ns s3.heap.objs.size m)
  (keep:∀b u,s3.heap.get? b=some u->h1.get? b=some u):Inv (compCx X (x::fx) scope cl s3 H1 fp) [] (none::frV σ fr) H1 {s3 with heap:=h1,toks:=t}:=by
 refine⟨xQ I hkind hcl F hfx ffp flt,rfl,I.bare,Un.kept keep,⟨m,hn,fun i y v e1 e2 e3=>?_⟩,fun y c e=>?_,I.hok.fresh (Nat.le_refl _),fun y c e=>I.freeC y c (hcl y c e),fun p hp=>absurd (show p∈([]:List (Addr×Obj)) from hp) (by simp),I.hok.kept keep,?_⟩
 ·cases i with
  |zero=>simp at e2
  |succ j=>
   obtain⟨i0,k1,k2,k3,k4,k5⟩:=F.at (σ:=σ) j y v (by simpa [compCx] using e1) (by simpa using e2);obtain⟨m0,dl,ad⟩:=I.loc;obtain⟨u,r,l⟩:=ad i0 y v k1 k2 (.inr (.inl k3));refine⟨u,r,?_⟩;rcases l with⟨z,_⟩|⟨_,c,e,o,ho,hd⟩
   ·rw[k3] at z;cases z
   ·exact .inr ⟨.inl k4,c,k5.trans e,o,keep c o ho,hd⟩
 ·obtain⟨v,o,ho,hd⟩:=I.cell y c (hcl y c e);exact⟨v,o,keep c o ho,hd⟩
 ·show (none::frV σ fr).length=(x::fx).length;simp[frV,F.len]
theorem fj {N':List Str}{pins':List (Addr×Obj)}{σ':St}{H2:Hp}{s':Shared}{h':Heap}(I:Inv X pins σ H1 s3)(J:Inv (compCx X N' scope cl s3 H1 fp) pins' σ' H2 s')(ffp:∀b∈fp,FpOk X pins H1 b)
  (sb:Heap.SameBut s3.heap.objs.size s'.heap h'):Inv X pins σ H2 {s' with heap:=h' }:=by
 have k:∀b u,b≠s3.heap.objs.size->s'.heap.get? b=some u->h'.get? b=some u:=fun b u hb e=>sb.extBut b u hb e;have lt:∀b u,s3.heap.get? b=some u->b≠s3.heap.objs.size:=fun b u e=>Nat.ne_of_lt (Heap.lt_size e);have u:Un (frs X.stack) fp H1 H2 s3.heap s'.heap:=J.base;have u':Un (frs X.stack) fp H1 H2 s3.heap h':=
  ⟨fun b o q n hb hx=>k b o (lt b o q) (u.keep b o q n hb hx),fun b o q n hb hx=>by
    obtain⟨sl,e⟩:=u.slot b o q n hb hx;exact⟨sl,k b _ (lt b o q) e⟩,u.free,fun b o q hx=>by
    obtain⟨o',e⟩:=u.there b o q hx;exact⟨o',k b _ (lt b o q) e⟩,u.tups,u.frzs,u.tbls⟩
 have nC:H2 s3.heap.objs.size=none:=J.free;have dl:HOk X.prog X.w H2 h':=fun b uo e=>by
  refine (J.hok b uo e).stay (fun c v hc q=>k c v ?_ q) (fun _ q=>q) fun _ _ q=>q;rintro rfl;rcases hc with z|z
  ·rw[<- z,nC] at e;cases e
  ·rw[nC] at z;cases z
 have os:s'.os=s3.os:=J.os;have ld:=J.bare;obtain⟨hh,g,d,t,ad⟩:=s';obtain rfl:ad=s3.os:=os;have mt:=I.call (h':=h') (g':=g) (d':=d) (t':=t) (ch:=fp) u' dl ld fun b hb=>by obtain⟨f0,f1,f2,f3,f4,f5⟩:=ffp b hb;exact⟨f3,f1,f4,f5⟩
 exact mt
end
noncomputable def PF (X:Cx)(ifs:List Expr)(t:TT):Prop:=
 ∀(pins:List (Addr×Obj)) (s:Shared) (σ:St) (H:Hp) (Q:Bool->Hp->Prop),Inv X pins σ H s->t σ H Q ->
  wpAny (model X.prog X.w) X.A (forIn ifs true fun c r=>if r=true then do let ok <- isTrue c X.env (eval c X.env);pure (ForInStep.yield ok) else pure (ForInStep.yield r)) (TP X pins σ Q) X.xe s
noncomputable def tYes:TT:=fun _ H Q=>Q true H
theorem bX {X:Cx}:PF X [] tYes:=fun _ _ _ H _ I h=>wpAny_tests_nil ⟨H,I,h⟩
theorem fk {X:Cx}{c:Expr}{t:TT}(h:PT X c t):PF X [c] t:=fun pins s σ H Q I q=>wpAny_tests_one (h pins s σ H Q I q)
noncomputable def CompI (J:It)(p:Addr)(fv:St)(tt:TT)(te:TE)(Q:VK)(H1:Hp):Prop:=
 ∃W:Nat->Nat->List V->Hp->Prop,(∃m,W 0 m [] (upd H1 p (.lst [])))∧∀i m ys H2,W i m ys H2->H2 p=some (.lst ys) ∧
  ((J.stop i H2∧Q (.ref p) H2)∨(J.go i H2∧ys.length < sizeLine∧∀x H3,J.yld i H2 x H3->tt (some x::fv) H3 fun b H4=>
   if b=true then te (some x::fv) H4 fun y H5=>H5 p=some (.lst ys)∧∃m',m' < m∧W (i+1) m' (ys++[y]) (upd H5 p (.lst (ys++[y])))
   else ∃m',m' < m∧W (i+1) m' ys H4))
noncomputable def tComp (wi:TI)(fr:List Nat)(tt:TT)(te:TE):TE:=fun σ H Q=>wi σ H fun J H1=>∀p,H1 p=none->CompI J p (frV σ fr) tt te Q H1
section
variable {X:Cx}{elt iter:Expr}{x:Str}{px pos:Pos}{ifs:List Expr}{scope:Scope}{cl:List (Str×Addr)}{fx:List Str}{fr:List Nat}{wi:TI}{tt:TT}{te:TE}
theorem mR {pins:List (Addr×Obj)}{σ:St}{H3:Hp}{s3:Shared}{it p:Addr}{fp:List Addr}{tn:Nat->Heap->Prop}{J:It}{Q:VK}{W:Nat->Nat->List V->Hp->Prop}{m0 t:Nat}{h₁:Heap}{m:Str->Option Value}{RR:Result->Shared->Prop}
  (hc:X.calm=true) (hkind:scope.kind=.function) (hx:scope.names.lookup x=some .local) (hnd:(x::fx).Nodup)
  (hcl:∀y c,cl.lookup y=some c->X.env.cells.lookup y=some c) (F:Frees X (relabel scope X.env) cl fx fr)
  (hfx:((relabel scope X.env).names.all fun p=>if (p.2 == .cell || p.2 == .free) then fx.contains p.1 else true)=true)
  (ht:∀s H fp,PF (compCx X (x::fx) scope cl s H fp) ifs tt) (he:∀s H fp,PE (compCx X (x::fx) scope cl s H fp) elt te)
  (I3:Inv X pins σ H3 s3) (T:Turn X.prog X.w X.K (.Name x px) J fp it tn) (st3:tn 0 s3.heap) (ffp:∀b∈fp,FpOk X pins H3 b) (flt3:∀b∈fp,b < s3.heap.objs.size)
  (w0:W 0 m0 [] H3) (turn:∀i m ys H2,W i m ys H2->H2 p=some (.lst ys) ∧
   ((J.stop i H2∧Q (.ref p) H2)∨(J.go i H2∧ys.length < sizeLine∧∀x H3,J.yld i H2 x H3->tt (some x::frV σ fr) H3 fun b H4=>
    if b=true then te (some x::frV σ fr) H4 fun y H5=>H5 p=some (.lst ys)∧∃m',m' < m∧W (i+1) m' (ys++[y]) (upd H5 p (.lst (ys++[y])))
    else ∃m',m' < m∧W (i+1) m' ys H4)))
  (hns:h₁.Ns s3.heap.objs.size m) (keep1:∀b u,s3.heap.get? b=some u->h₁.get? b=some u)
  (fin:∀s6 H5 o,Inv (compCx X (x::fx) scope cl s3 H3 fp) [] (o::frV σ fr) H5 s6->Q (.ref p) H5->RR (.ok .next) s6) :
  codeAny (model X.prog X.w) X.A (.compStart (.ListComp elt [⟨.Name x px,iter,ifs,0⟩] scope pos) 0 (.ref it) (.ref p) (compEnvC scope cl s3.heap.objs.size X.env))
   RR {s3 with heap:=h₁,toks:=t}:=by
 have I4:=xR (x:=x) (t:=t) I3 hkind hcl F hfx ffp flt3 hns keep1;have Fy:tn 0 h₁:=T.keep _ _ _ st3 fun b hb o e=>keep1 b o e;have FH:∀b∈fp,H3 b=none:=fun b hb=>(ffp b hb).1;have mt:(compCx X (x::fx) scope cl s3 H3 fp).calm=true:=hc;have dl:∀{H':Hp},(∀b∈fp,H' b=none)->∀b∈fp,FpOk (compCx X (x::fx) scope cl s3 H3 fp) [] H' b:=fun {H'} hn b hb=>by obtain⟨f0,f1,f2,f3,f4,f5⟩:=ffp b hb;exact⟨hn b hb,Nat.ne_of_lt (flt3 b hb),I4.ok.exfs b hb,.inl hb,fun y c e=>f4 y c (hcl y c e),fun q hq=>absurd (show q∈([]:List (Addr×Obj)) from hq) (by simp)⟩
 have Fz:(relabel scope X.env).names.lookup x=some .local:=lookup_relabel_local hx;have pg:PG (compCx X (x::fx) scope cl s3 H3 fp) (.Name x px) (gName 0):=fY (i:=0) hnd rfl (.inl Fz) (.inr Fz);have ld:codeAny (model X.prog X.w) X.A (.compLoop (.ListComp elt [⟨.Name x px,iter,ifs,0⟩] scope pos) 0 (.ref it) (.ref p) (compEnvC scope cl s3.heap.objs.size X.env))
    RR {s3 with heap:=h₁,toks:=t}:=by
  refine mQ (fun n s'=>∃i ys H' o,Inv (compCx X (x::fx) scope cl s3 H3 fp) [] (o::frV σ fr) H' s'∧tn i s'.heap∧(∀b∈fp,H' b=none)∧W i n ys H') ?_ m0 ⟨0,[],_,none,I4,Fy,FH,w0⟩;rintro n s5 ⟨i,ys,H5,o,I5,Fx,FA,w5⟩;obtain⟨FM,FK⟩:=turn i n ys H5 w5;rcases FK with⟨stop,qn⟩|⟨go,Fr,step⟩
  ·refine thn (T.done (compCx X (x::fx) scope cl s3 H3 fp) rfl rfl rfl mt i [] s5 (o::frV σ fr) H5 _ I5 (dl FA) Fx stop) fun r s6 W'=>?_;obtain⟨hr,I6⟩:=W';subst hr;exact fin s6 H5 o I6 qn
  ·refine thn (T.item (compCx X (x::fx) scope cl s3 H3 fp) rfl rfl rfl mt i [] s5 (o::frV σ fr) H5 _ I5 (dl FA) Fx go) fun r s6 W'=>?_;obtain⟨u,hr,h6⟩:=W';subst hr;refine thn h6 fun _ s7 W'=>?_;obtain⟨y7,H7,I7,r7,FB,Cl,FG⟩:=W';have I7':=I7.pinned (dl FG) (T.obj _ _ Cl);have ad:∀{σ':St}{H':Hp}{s':Shared},Inv (compCx X (x::fx) scope cl s3 H3 fp) ([]++pinsAt fp s7.heap) σ' H' s'->tn (i+1) s'.heap∧∀b∈fp,H' b=none:=fun {σ' H' s'} I'=>by
    refine⟨T.keep _ _ _ Cl fun b hb o e=>(I'.pin (b,o) (mem_append_right _ (mem_append_right _ (cn hb e)))).1,fun b hb=>?_⟩;obtain⟨o,e,d⟩:=T.obj _ _ Cl b hb;exact (I'.pin (b,o) (mem_append_right _ (mem_append_right _ (cn hb e)))).2.1
   refine thn (pg _ s7 _ H7 y7 u (fun σ' H'=>σ'=some y7::frV σ fr∧H'=H7) I7' r7 ⟨rfl,rfl⟩) fun _ s8 W'=>?_;obtain⟨σ8,H8,I8,e8,FI⟩:=W';subst e8 FI;refine thn (ht s3 H3 fp _ s8 _ _ _ I8 (step y7 _ FB)) fun b s9 W'=>?_;obtain⟨H9,I9,q9⟩:=W';cases b with
   |false=>rw[if_neg Bool.false_ne_true] at q9 ⊢;obtain⟨m',hm,w9⟩:=q9;exact⟨m',hm,i+1,ys,H9,some y7,I9.unpinned,(ad I9).1,(ad I9).2,w9⟩
   |true=>rw[if_pos rfl] at q9 ⊢;refine thn (he s3 H3 fp _ s9 _ H9 _ I9 q9) fun FD FE W'=>?_;obtain⟨BT,H10,I10,FF,Fn,m',hm,FC⟩:=W';refine thn (bU _ FE _ H10 (.ref p) [BT] (.ref p) [FD] (fun _ H'=>H'=upd H10 p (.lst (ys++[BT]))) I10 rfl (.cons FF .nil) ⟨p,ys,BT,rfl,rfl,Fn,Fr,rfl⟩) fun _ FL W'=>?_;obtain⟨_,H11,I11,_,FJ⟩:=W';subst FJ;exact⟨m',hm,i+1,ys++[BT],_,some y7,I11.unpinned,(ad I11).1,(ad I11).2,FC⟩
 exact codeAny_compStart_list ld (T.self _ 0 _ _ _ Fy ld)
theorem xS (hc:X.calm=true)(hclos:closureFor scope X.env=pure cl)(hcell:∀y∈scope.names,y.2≠.cell)(hkind:scope.kind=.function)
  (hnames:∀y∈scope.names,y.2=.local->scope.names.lookup y.1=some .local) (hx:scope.names.lookup x=some .local) (hnd:(x::fx).Nodup)
  (hk:(cl.all fun q=>fx.contains q.1)=true) (F:Frees X (relabel scope X.env) cl fx fr)
  (hfx:((relabel scope X.env).names.all fun p=>if (p.2 == .cell || p.2 == .free) then fx.contains p.1 else true)=true)
  (hi:PI X (.Name x px) iter wi) (ht:∀s H fp,PF (compCx X (x::fx) scope cl s H fp) ifs tt) (he:∀s H fp,PE (compCx X (x::fx) scope cl s H fp) elt te)
  (hs:∀x,foldedSetIterable iter X.env x=pure x:=by intro _;rfl) :
  PE X (.ListComp elt [⟨.Name x px,iter,ifs,0⟩] scope pos) (tComp wi fr tt te):=by
 intro ad s σ H Q I h;have FB:∀y c,cl.lookup y=some c->X.env.cells.lookup y=some c:=fun y c e=>by have q:=all_eq_true.mp hk _ (PySem.mem_of_lookup e);rw[<- (F.mem y (by simpa using q)).2];exact e
 rw[eval_ListComp];refine wpAny_comprehension_free (use:=none) rfl hs hclos hkind hnames ?_;refine thn (hi ad s σ H _ I h) fun v s1 h1=>thn h1 fun FD s2 h2=>?_;obtain⟨it,fp,tn,J,H2,e,I2,T,Fr,f2,q2⟩:=h2;subst e;have Fz:H2 s2.heap.objs.size=none:=I2.hok.fresh (Nat.le_refl _);obtain⟨W,⟨m0,w0⟩,Fn⟩:=q2 _ Fz;have flt:∀b∈fp,b < s2.heap.objs.size:=fun b hb=>by obtain⟨o,e,_⟩:=T.obj _ _ Fr b hb;exact Heap.lt_size e
 refine wpAny_newObj_type (wpAny_newFunctionEnv hcell (by intro y hy;simp at hy) (fun h₁ ld dl=>?_) hkind);dsimp only at ld dl ⊢;have mt:∀b u,s2.heap.get? b=some u->(s2.heap.push {cls:=.type "list",dict:=none,data:=.seq ([]:List Value).toArray}).get? b=some u:=fun b u e=>Heap.get?_push_of_some _ e;have Cl:(s2.heap.push {cls:=.type "list",dict:=none,data:=.seq ([]:List Value).toArray}).get? s2.heap.objs.size=some {cls:=.type "list",dict:=none,data:=.seq ([]:List Value).toArray}:=Heap.get?_push_size _ rfl;have Fx:(s2.heap.push {cls:=.type "list",dict:=none,data:=.seq ([]:List Value).toArray}).objs.size=s2.heap.objs.size+1:=Heap.size_push _ _;generalize hHH:s2.heap.push {cls:=.type "list",dict:=none,data:=.seq ([]:List Value).toArray}=HH at ld dl mt Cl Fx ⊢;have I3:Inv X ad σ (upd H2 s2.heap.objs.size (.lst [])) {s2 with heap:=HH,toks:=s2.toks}:=
  I2.laid (t':=s2.toks) (o:=.lst []) mt (Nat.le_refl _) ⟨Nat.zero_le _,[],0,.nil,Cl⟩
 have Fy:∀b∈fp,FpOk X ad (upd H2 s2.heap.objs.size (.lst [])) b:=fun b hb=>by obtain⟨f0,FC⟩:=f2 b hb;exact⟨by rw[aN (Nat.ne_of_lt (flt b hb))];exact f0,FC⟩
 have BT:∀b u,HH.get? b=some u->h₁.get? b=some u:=fun b u e=>dl.extBut b u (Nat.ne_of_lt (Heap.lt_size e)) (Heap.get?_push_of_some _ e);exact mR (s3:={ s2 with heap:=HH,toks:=s2.toks}) hc hkind hx hnd FB F hfx ht he I3 T (T.keep _ _ _ Fr fun b hb o e=>mt b o e) Fy (fun b hb=>by show b < HH.objs.size;rw[Fx];exact Nat.lt_succ_of_lt (flt b hb)) w0 Fn ld BT fun s6 H5 o I6 qn=>by obtain⟨m,FA,_⟩:=id I6.loc;exact⟨m,FA,fun h' sb=>⟨.ref _,H5,fj I3 I6 Fy sb,rfl,qn⟩⟩
theorem xT {i:Nat}{y:Str}{py spos:Pos}(hN:X.N.Nodup)(hiN:X.N[i]?=some y)(hy:X.env.scope.names.lookup y=some .local)
  (hc:X.calm=true) (hclos:closureFor scope X.env=pure cl) (hcell:∀y∈scope.names,y.2≠.cell) (hkind:scope.kind=.function)
  (hnames:∀y∈scope.names,y.2=.local->scope.names.lookup y.1=some .local) (hx:scope.names.lookup x=some .local) (hnd:(x::fx).Nodup)
  (hk:(cl.all fun q=>fx.contains q.1)=true) (F:Frees X (relabel scope X.env) cl fx fr)
  (hfx:((relabel scope X.env).names.all fun p=>if (p.2 == .cell || p.2 == .free) then fx.contains p.1 else true)=true)
  (hi:PI X (.Name x px) iter wi) (ht:∀s H fp,PF (compCx X (x::fx) scope cl s H fp) ifs tt) (he:∀s H fp,PE (compCx X (x::fx) scope cl s H fp) elt te)
  (hs:∀x,foldedSetIterable iter X.env x=pure x:=by intro _;rfl) (hsw:swapsWith (.ListComp elt [⟨.Name x px,iter,ifs,0⟩] scope pos) (some (.Name y py)) spos.line X.env=pure true:=by rfl) :
  PS X (.Assign [.Name y py] (.ListComp elt [⟨.Name x px,iter,ifs,0⟩] scope pos) spos) (tAsg (tComp wi fr tt te) (gName i)):=by
 intro ad s σ H D I h;have FE:∀y c,cl.lookup y=some c->X.env.cells.lookup y=some c:=fun y c e=>by have q:=all_eq_true.mp hk _ (PySem.mem_of_lookup e);rw[<- (F.mem y (by simpa using q)).2];exact e
 rw[exec_Assign_Name_used _ _ _ _ hsw];refine wpAny_bind (wpAny_standAt (wpAny_bind ?_));show wpAny _ X.A (do let _ <- comprehension (.ListComp elt [⟨.Name x px,iter,ifs,0⟩] scope pos) scope X.env _ (newList []) false (eval iter X.env) (some (assign (.Name y py) X.env))) _ _ s;refine wpAny_bind (wpAny_mono (wpAny_comprehension_free (use:=some (assign (.Name y py) X.env)) (Q:=fun _ s'=>SP X ad D .next s') rfl hs hclos hkind hnames ?_) (fun _ s' hq=>wpAny_pure (wpAny_pure hq)) fun _ _ e=>e);refine thn (hi ad s σ H _ I h) fun v s1 h1=>thn h1 fun FG s2 h2=>?_;obtain⟨it,fp,tn,J,H2,e,I2,T,Fr,f2,q2⟩:=h2;subst e;have FB:H2 s2.heap.objs.size=none:=I2.hok.fresh (Nat.le_refl _);obtain⟨W,⟨m0,w0⟩,Fn⟩:=q2 _ FB;have flt:∀b∈fp,b < s2.heap.objs.size:=fun b hb=>by obtain⟨o,e,_⟩:=T.obj _ _ Fr b hb;exact Heap.lt_size e
 refine wpAny_newObj_type (wpAny_newFunctionEnv hcell (by intro y hy;simp at hy) (fun h₁ ld dl=>?_) hkind);dsimp only at ld dl ⊢;have mt:∀b u,s2.heap.get? b=some u->(s2.heap.push {cls:=.type "list",dict:=none,data:=.seq ([]:List Value).toArray}).get? b=some u:=fun b u e=>Heap.get?_push_of_some _ e;have Cl:(s2.heap.push {cls:=.type "list",dict:=none,data:=.seq ([]:List Value).toArray}).get? s2.heap.objs.size=some {cls:=.type "list",dict:=none,data:=.seq ([]:List Value).toArray}:=Heap.get?_push_size _ rfl;have Fx:(s2.heap.push {cls:=.type "list",dict:=none,data:=.seq ([]:List Value).toArray}).objs.size=s2.heap.objs.size+1:=Heap.size_push _ _;generalize hHH:s2.heap.push {cls:=.type "list",dict:=none,data:=.seq ([]:List Value).toArray}=HH at ld dl mt Cl Fx ⊢;have I3:Inv X ad σ (upd H2 s2.heap.objs.size (.lst [])) {s2 with heap:=HH,toks:=s2.toks}:=
  I2.laid (t':=s2.toks) (o:=.lst []) mt (Nat.le_refl _) ⟨Nat.zero_le _,[],0,.nil,Cl⟩
 have Fy:∀b∈fp,FpOk X ad (upd H2 s2.heap.objs.size (.lst [])) b:=fun b hb=>by obtain⟨f0,FF⟩:=f2 b hb;exact⟨by rw[aN (Nat.ne_of_lt (flt b hb))];exact f0,FF⟩
 have BT:∀b u,HH.get? b=some u->h₁.get? b=some u:=fun b u e=>dl.extBut b u (Nat.ne_of_lt (Heap.lt_size e)) (Heap.get?_push_of_some _ e);exact mR (Q:=fun x H1=>gName i x σ H1 D.nx) (s3:={ s2 with heap:=HH,toks:=s2.toks}) hc hkind hx hnd FE F hfx ht he I3 T (T.keep _ _ _ Fr fun b hb o e=>mt b o e) Fy (fun b hb=>by show b < HH.objs.size;rw[Fx];exact Nat.lt_succ_of_lt (flt b hb)) w0 Fn ld BT fun s6 H5 o I6 qn=>by
  have nC:H5 HH.objs.size=none:=I6.free;have I7:Inv X ad σ H5 s6:=fj (h':=s6.heap) I3 I6 Fy ⟨rfl,fun _ _=>rfl⟩;obtain⟨f0,f1,f2,f3,f4,f5⟩:=I3.fpOk (H':=H5) (b:=HH.objs.size) (Nat.le_refl _) nC;obtain⟨m,FD,_⟩:=id I6.loc;show wpAny _ X.A (assign (.Name y py) X.env (.ref _)) _ _ s6;refine wpAny_assign_Name (ic I7 hN hiN (.inl hy) (v:=.ref _) rfl (fun s8 I8 Fz=>?_) (.inr hy));obtain⟨a,sb,ha⟩:=Fz;have FC:HH.objs.size≠a:=by
   rcases ha with rfl|ha
   ·exact f1
   ·exact fun z=>f4 y a ha z.symm
  refine⟨m,FD.sameBut sb FC,fun h' FA=>?_⟩;exact⟨_,H5,I8.turned (t':=s8.toks) (it:=HH.objs.size) (fun b o hb e=>FA.extBut b o hb e) f0 f1 f3 f4 f5,qn⟩
end
section
variable {p:Addr}{fv:St}{te:TE}{Q:VK}{H1:Hp}
theorem mS {z:Str}(hz:z.length≤sizeLine)(hp:H1 p=none)(f:Nat->V)
  (he:∀c,c∈z.cps.toList->∀(H':Hp) (R:VK),(∀H'',Same H' H''->R (f c) H'')->te (some (.str ⟨#[c]⟩)::fv) H' R)
  (hQ:∀H',Same H1 H'->H' p=some (.lst (z.cps.toList.map f))->Q (.ref p) H'):CompI (Its z) p fv tYes te Q H1:=by
 have hl:z.cps.toList.length=z.length:=by simp[Str.length]
 refine⟨fun i m ys H2=>m=z.length - i∧i≤z.length∧ys=(z.cps.toList.take i).map f∧H2 p=some (.lst ys)∧Same H1 H2,⟨z.length,by simp,Nat.zero_le _,by simp,aL,fun b o e=>by rw[aN (aY e hp)];exact e⟩,?_⟩;rintro i m ys H2 ⟨rfl,hi,rfl,ad,sm⟩;refine⟨ad,?_⟩;by_cases dl:i < z.length
 ·refine .inr ⟨dl,?_,fun x H3 y=>?_⟩
  ·rw[length_map,length_take];lia
  ·obtain⟨rfl,c,hc,rfl⟩:=y;unfold tYes;dsimp only;rw[if_pos rfl];refine he c (mem_of_getElem? hc) _ _ fun H5 s5=>⟨s5 _ _ ad,z.length - (i+1),by lia,rfl,dl,?_,aL,fun b o e=>?_⟩
   ·rw[take_add_one,hc,map_append];rfl
   ·rw[aN (aY e hp)];exact s5 _ _ (sm _ _ e)
 ·have e:i=z.length:=by lia
  subst e;refine .inl ⟨Nat.le_refl _,hQ H2 sm ?_⟩;rw[ad,<- hl,take_length]
end
section
variable {σ:St}{H:Hp}{Q:VK}{K:W.Frag}{tl te:TE}{tt:TT}{fr:List Nat}
theorem xU:frV σ []=[]:=rfl
theorem xV {i:Nat}{r:List Nat}:frV σ (i::r)=(σ[i]?).getD none::frV σ r:=rfl
theorem xW {z:Str}{p:Addr}:rJoin K (.str z) [.ref p] H Q↔∃ys:List Str,SqL K H p (ys.map V.str)∧(ys.map (·.length)).sum+ys.length * z.length≤16777216∧Q (.str (Txt.join z ys)) H:=by
 constructor
 ·rintro⟨z',p',ys,h1,h2,h3⟩;cases h1;cases h2;exact⟨ys,h3⟩
 ·rintro⟨ys,h⟩;exact⟨z,p,ys,rfl,rfl,h⟩
theorem xX:(tComp (iStr tl) fr tt te σ H Q)=(tl σ H fun x H1=>∃z,x=.str z∧∀p,H1 p=none->CompI (Its z) p (frV σ fr) tt te Q H1):=rfl
theorem xY:(tComp (iList K tl) fr tt te σ H Q)=(tl σ H fun x H1=>∃a,x=.ref a∧(∃xs,SqL K H1 a xs)∧∀p,H1 p=none->CompI (Itl K a) p (frV σ fr) tt te Q H1):=rfl
end
section
variable {X:Cx}{K:W.Frag}
theorem ah (h:X.K=K):OpR X (binaryOp .Add) (rAddU K):=by subst h;exact mL
theorem xZ (h:X.K=K):IxR X (rIx K):=by subst h;exact vT
theorem cr (h:X.K=K):SlR X (rSl K):=by subst h;exact vx
theorem ac (h:X.K=K):CallR X (.builtin "len") (rLenU K):=by subst h;exact wI
theorem di (h:X.K=K):MtR X "str.join" (rJoin K):=by subst h;exact wB
theorem cY {tg l:Expr}{tl:TE}(h:X.K=K)(hl:PE X l tl):PI X tg l (iList K tl):=by subst h;exact uV hl
variable {o e:Expr}{es:List Expr}{to:TE}{t:TA}{name:Str}{apos cpos:Pos}{T id:String}{r:V->List V->Hp->VK->Prop}
theorem aq (h:X.K=K)(pa:PlainAttrs T)(slot:Slot T name id)(hty:typeOf (.builtin id)=pure (.type "method_descriptor"))(hm:MtR X id r)(ho:PE X o to)(ha:PA X (e::es) t)
  (hbase:attributeBase o name X.env (eval o X.env)=eval o X.env:=by rfl)
  (hfew:((backTo cpos (starEach (e::es) X.env)).all (fun x=>!x.1) && (backToKw cpos (keywordEach [] X.env)).all (fun x=>x.1.isSome)
   && decide ((e::es).length+([]:List Keyword).length+(if ([]:List Keyword).isEmpty then 0 else 1) < 30))=true:=by rfl)
  (hline:(apos.endLine == cpos.line)=true:=by rfl) (hs:starEach (e::es) X.env=(false,eval e X.env)::starEach es X.env:=by rfl) (hplain:(backTo cpos (starEach es X.env)).any (·.1)=false:=by rfl) :
  PE X (.Call (.Attribute o name apos) (e::es) [] cpos) (tBM K T r to t):=by
 subst h;exact ve pa slot hty hm ho ha hbase hfew hline hs hplain
end
structure FunD (K:W.Frag)(x qual:Str)(st:Stmt)(f:Addr)(fd:FuncData)(T:Addr):Prop where
 ex:∃(oc:Value) (od:Option Addr) (kV doc pm:Value) (an:Option Addr) (cdv ct:Value) (osl:Array (Option Value)),
  fd=PySem.W.fnOf x qual (defArgs st) (defBody st) (defScope st) (.ref T) kV doc pm an cdv ct∧K.lookup f=some ⟨oc,od,.func fd,osl⟩∧PySem.W.codeIn K cdv qual=true
 kp:PySem.W.keepIn K (.ref f)=true
section
variable {P:Program}{w:World}{K:W.Frag}{mg:Str->Option Value}{base:Heap}
theorem FunD.ok {x qual:Str}{st:Stmt}{f T:Addr}{fd:FuncData}{N ps:List Str}{k:Nat}{sp:Sp}(F:FunD K x qual st f fd T)(S:FnScope N ps (defScope st))(len:∀vs H Q E,sp vs H Q E->vs.length=ps.length)
  (hbody:∀(cdv:Value) (A:Around) (outer:List Env) (s:Shared) (H:Hp) (vs:List V) (Q:VK) (E:XK),Room k (A.deeper (envOfC qual (defScope st) s.heap.objs.size f cdv))->sp vs H Q E ->
   ∃t,PSs (cxOf CX0 P w K mg base N qual (defScope st) f cdv A outer s H E).nox (defBody st) t∧t {nx:=fun _ H'=>Q .non H',rt:=Q} (start N vs) H):FnOk P w K mg base CX0 (k+1) f fd ps sp:=by
 obtain⟨oc,od,kV,doc,pm,an,cdv,ct,osl,rfl,lk,hcd⟩:=F.ex;refine m7 lk hcd S len fun A outer s H vs Q E hr hsp=>?_;obtain⟨t,h,q⟩:=hbody cdv A outer s H vs Q E hr hsp;exact⟨t,h.nox,q⟩
theorem FunD.binds {x qual:Str}{st:Stmt}{f T:Addr}{fd:FuncData}{ps:List Str}{ds:List Value}{oc:Value}{od:Option Addr}{items:Array Value}{n:Nat}{sl:Array (Option Value)}(F:FunD K x qual st f fd T)(hT:K.lookup T=some ⟨oc,od,.seq items n,sl⟩)
  (h:∀(kV doc pm:Value) (an:Option Addr) (cdv ct:Value) (us:List Value),(us++ds).length=ps.length->∃k:Option (Array Value)->Sem (List (Str×Value)),
   bindArgs (PySem.W.fnOf x qual (defArgs st) (defBody st) (defScope st) (.ref T) kV doc pm an cdv ct) ⟨us,[]⟩=seqItems? (.ref T) >>= k∧k (some items)=pure (ps.zip (us++ds))):Binds K fd ps ds:=by
 obtain⟨oc',od',kV,doc,pm,an,cdv,ct,osl,rfl,lk,hcd⟩:=F.ex;intro s us X hl;obtain⟨k,h1,h2⟩:=h kV doc pm an cdv ct us hl;exact BindsTo.of_defaults (T:=T) rfl (X T _ hT) rfl h1 h2
theorem fm {x qual:Str}{st:Stmt}{f T:Addr}{oc:Value}{od an:Option Addr}{osl:Array (Option Value)}{kV doc pm cdv ct:Value}(l:K.lookup f=some ⟨oc,od,.func (PySem.W.fnOf x qual (defArgs st) (defBody st) (defScope st) (.ref T) kV doc pm an cdv ct),osl⟩)
  (c:PySem.W.codeIn K cdv qual=true) (k:PySem.W.keepIn K (.ref f)=true):FunD K x qual st f (PySem.W.fnOf x qual (defArgs st) (defBody st) (defScope st) (.ref T) kV doc pm an cdv ct) T:=⟨⟨oc,od,kV,doc,pm,an,cdv,ct,osl,rfl,l,c⟩,k⟩
end
theorem xa {us:List Value}{d:Value}(h:(us++[d]).length=2):∃x,us=[x]:=by
 match us,h with
 |[x],_=>exact⟨x,rfl⟩
 |[],h=>simp at h
 |_::_::_,h=>simp at h
theorem dj {c:TT}{tb:TS}{D:Ends}{σ:St}{H:Hp}(W:Nat->St->Hp->Prop)(m0:Nat)(h0:W m0 σ H)
  (hs:∀m σ H,W m σ H->c σ H fun b H1=>if b=true then ∃N:St->Hp->Prop,(∀σ' H',N σ' H'->∃m',m' < m∧W m' σ' H')∧tb {D with nx:=N,ct:=N,bk:=D.nx} σ H1 else D.nx σ H1):tWhile c tb D σ H:=⟨W,⟨m0,h0⟩,hs⟩
section
variable {σ:St}{H:Hp}{Q:VK}
theorem xb {r:V->Hp->VK->Prop}{ta:TE}:(tUn r ta σ H Q)=(ta σ H fun x H1=>r x H1 Q):=rfl
theorem rd_U {g:Int->V}{i:Int}:rU g (.int i) H Q↔Q (g i) H:=⟨fun⟨_,h1,h2⟩=>by cases h1;exact h2,fun h=>⟨i,rfl,h⟩⟩
theorem xc {l:Addr}{y:V}:rAppend (.ref l) [y] H Q↔∃xs,H l=some (.lst xs)∧xs.length < sizeLine∧Q .non (upd H l (.lst (xs++[y]))):=by
 constructor
 ·rintro⟨l',xs,y',h1,h2,h3⟩;cases h1;cases h2;exact⟨xs,h3⟩
 ·rintro⟨xs,h⟩;exact⟨l,xs,y,rfl,rfl,h⟩
theorem xf {K:W.Frag}{p:Addr}:tyV K "list" (.ref p) H↔∃xs,SqL K H p xs:=by
 constructor
 ·rintro (⟨_,h⟩|⟨h,_⟩|⟨h,_⟩|⟨h,_⟩)
  ·exact h
  ·exact absurd h (by decide)
  ·exact absurd h (by decide)
  ·exact absurd h (by decide)
 ·intro h;exact .inl ⟨rfl,h⟩
end
mutual
inductive Is (H:Hp):PyData->V->Prop
 |non:Is H .none .non
 |bl (b:Bool):Is H (.bool b) (.bl b)
 |int (i:Int):Is H (.int i) (.int i)
 |str (x:Str):Is H (.str x) (.str x)
 |lst {p:Addr}{xs:List V}{ds:List PyData}:H p=some (.lst xs)->IsAll H ds xs->Is H (.list ds) (.ref p)
 |tup {p:Addr}{xs:List V}{ds:List PyData}:H p=some (.tup xs)->IsAll H ds xs->Is H (.tuple ds) (.ref p)
 |dic {p:Addr}:H p=some (.dK [])->Is H (.dict []) (.ref p)
inductive IsAll (H:Hp):List PyData->List V->Prop
 |nil:IsAll H [] []
 |cons {d:PyData}{x:V}{ds:List PyData}{xs:List V}:Is H d x->IsAll H ds xs->IsAll H (d::ds) (x::xs)
end
mutual
theorem Is.mono {H H':Hp}(sm:Same H H'):∀{d:PyData}{x:V},Is H d x->Is H' d x
 |_,_,.non=>.non
 |_,_,.bl b=>.bl b
 |_,_,.int i=>.int i
 |_,_,.str x=>.str x
 |_,_,.lst h r=>.lst (sm _ _ h) (IsAll.mono sm r)
 |_,_,.tup h r=>.tup (sm _ _ h) (IsAll.mono sm r)
 |_,_,.dic h=>.dic (sm _ _ h)
theorem IsAll.mono {H H':Hp}(sm:Same H H'):∀{ds:List PyData}{xs:List V},IsAll H ds xs->IsAll H' ds xs
 |_,_,.nil=>.nil
 |_,_,.cons h r=>.cons (Is.mono sm h) (IsAll.mono sm r)
end
theorem IsAll.length {H:Hp}:∀{ds:List PyData}{xs:List V},IsAll H ds xs->ds.length=xs.length
 |_,_,.nil=>rfl
 |_,_,.cons _ r=>by rw[length_cons,length_cons,IsAll.length r]
theorem IsAll.at {H:Hp}:∀{ds:List PyData}{xs:List V},IsAll H ds xs->∀(i:Nat) (x:V),xs[i]?=some x->∃d,ds[i]?=some d∧Is H d x
 |_,_,.nil,i,x,h=>by simp at h
 |_,_,.cons q r,0,x,h=>by simp at h;subst h;exact⟨_,rfl,q⟩
 |_,_,.cons q r,i+1,x,h=>by obtain⟨d,h1,h2⟩:=r.at i x (by simpa using h);exact⟨d,by simpa using h1,h2⟩
section
variable {X:Cx}{pins:List (Addr×Obj)}{σ:St}{H:Hp}{s:Shared}
mutual
theorem Is.reads (I:Inv X pins σ H s):∀{d:PyData}{x:V}{v:Value},Is H d x->RelV x v->∃as,Reads s.heap v d as
 |_,_,_,.non,r=>by cases r;exact⟨_,.none⟩
 |_,_,_,.bl b,r=>by cases r;exact⟨_,.bool b⟩
 |_,_,_,.int i,r=>by obtain⟨t,rfl⟩:=r;exact⟨_,.int i t⟩
 |_,_,_,.str x,r=>by obtain⟨t,rfl⟩:=r;exact⟨_,.str x t⟩
 |_,_,_,.lst h q,r=>by cases r;obtain⟨its,vs,⟨o,n,e,c,_,dt⟩,_⟩:=I.list (SqL.of h);obtain⟨as,ra⟩:=IsAll.reads I q vs;exact⟨_,.list e c dt (by simpa using ra)⟩
 |_,_,_,.tup h q,r=>by cases r;obtain⟨its,vs,⟨o,e,c,n,dt⟩,_⟩:=I.tuple (SqT.of h);obtain⟨as,ra⟩:=IsAll.reads I q vs;exact⟨_,.tuple e c dt (by simpa using ra)⟩
 |_,_,_,.dic h,r=>by
  cases r;obtain⟨_,_,vs,kv,o,es,ep,e,c,dt,_,hp,_⟩:=I.hok _ _ h;cases kv;have hes:es.toList=[]:=by generalize es.toList=l at hp;cases hp;rfl
  exact⟨_,.dict (kvs:=[]) e c.1 dt (by rw[hes];exact .nil) (by rw[hes];exact .nil)⟩
theorem IsAll.reads (I:Inv X pins σ H s):∀{ds:List PyData}{xs:List V}{vs:List Value},IsAll H ds xs->Vals xs vs->∃as,ReadsAll s.heap vs ds as
 |_,_,_,.nil,r=>by cases r;exact⟨_,.nil⟩
 |_,_,_,.cons q t,r=>by
  cases r with
  |cons r1 r2=>obtain⟨as,h1⟩:=Is.reads I q r1;obtain⟨bs,h2⟩:=IsAll.reads I t r2;exact⟨_,.cons h1 h2⟩
end
noncomputable def rEqD:R2:=fun x y H Q=>∃d e,Is H d x∧Is H e y∧SeqAt.shaped d=true∧SeqAt.shaped e=true∧Q (.bl (PyData.eqv d e)) H
noncomputable def rNeD:R2:=fun x y H Q=>∃d e,Is H d x∧Is H e y∧SeqAt.shaped d=true∧SeqAt.shaped e=true∧Q (.bl (!PyData.eqv d e)) H
theorem mU (hu:X.A.units+64 < cLine):OpR X (compareOp .Eq) rEqD:=by intro pins s σ H x y v u Q I rx ry h;obtain⟨d,e,hx,hy,sx,sy,q⟩:=h;obtain⟨as,ra⟩:=hx.reads I rx;obtain⟨bs,rb⟩:=hy.reads I ry;exact eq_dataH ra rb sx sy hu ⟨.bl _,H,I,rfl,q⟩
theorem bx (hu:X.A.units+64 < cLine):OpR X (compareOp .NotEq) rNeD:=by intro pins s σ H x y v u Q I rx ry h;obtain⟨d,e,hx,hy,sx,sy,q⟩:=h;obtain⟨as,ra⟩:=hx.reads I rx;obtain⟨bs,rb⟩:=hy.reads I ry;exact ne_dataH ra rb sx sy hu ⟨.bl _,H,I,rfl,q⟩
end
mutual
inductive IsT (H:Hp):PyData->V->Prop
 |non:IsT H .none .non
 |bl (b:Bool):IsT H (.bool b) (.bl b)
 |int (i:Int):IsT H (.int i) (.int i)
 |str (x:Str):IsT H (.str x) (.str x)
 |tup {p:Addr}{xs:List V}{ds:List PyData}:H p=some (.tup xs)->IsTAll H ds xs->IsT H (.tuple ds) (.ref p)
inductive IsTAll (H:Hp):List PyData->List V->Prop
 |nil:IsTAll H [] []
 |cons {d:PyData}{x:V}{ds:List PyData}{xs:List V}:IsT H d x->IsTAll H ds xs->IsTAll H (d::ds) (x::xs)
end
noncomputable def SameT (H H':Hp):Prop:=∀b xs,H b=some (.tup xs)->H' b=some (.tup xs)
theorem Same.toT {H H':Hp}(h:Same H H'):SameT H H':=fun b xs e=>h b _ e
theorem ft {H:Hp}{p:Addr}{xs:List V}{o:HO}(h:H p=some (.lst xs)):SameT H (upd H p o):=fun b ys e=>by rw[aN (ib e h (by intro z;cases z))];exact e
mutual
theorem IsT.mono {H H':Hp}(sm:SameT H H'):∀{d:PyData}{x:V},IsT H d x->IsT H' d x
 |_,_,.non=>.non
 |_,_,.bl b=>.bl b
 |_,_,.int i=>.int i
 |_,_,.str x=>.str x
 |_,_,.tup h r=>.tup (sm _ _ h) (IsTAll.mono sm r)
theorem IsTAll.mono {H H':Hp}(sm:SameT H H'):∀{ds:List PyData}{xs:List V},IsTAll H ds xs->IsTAll H' ds xs
 |_,_,.nil=>.nil
 |_,_,.cons h r=>.cons (IsT.mono sm h) (IsTAll.mono sm r)
end
mutual
theorem IsT.is {H:Hp}:∀{d:PyData}{x:V},IsT H d x->Is H d x
 |_,_,.non=>.non
 |_,_,.bl b=>.bl b
 |_,_,.int i=>.int i
 |_,_,.str x=>.str x
 |_,_,.tup h r=>.tup h (IsTAll.is r)
theorem IsTAll.is {H:Hp}:∀{ds:List PyData}{xs:List V},IsTAll H ds xs->IsAll H ds xs
 |_,_,.nil=>.nil
 |_,_,.cons h r=>.cons (IsT.is h) (IsTAll.is r)
end
theorem IsTAll.append {H:Hp}:∀{ds es:List PyData}{xs ys:List V},IsTAll H ds xs->IsTAll H es ys->IsTAll H (ds++es) (xs++ys)
 |_,_,_,_,.nil,r=>r
 |_,_,_,_,.cons h t,r=>.cons h (t.append r)
theorem IsTAll.length {H:Hp}{ds:List PyData}{xs:List V}(h:IsTAll H ds xs):ds.length=xs.length:=h.is.length
section
variable {p:Addr}{fv:St}{te:TE}{Q:VK}{H1:Hp}
inductive All2 (R:V->V->Hp->Prop)(H:Hp):List V->List V->Prop
 |nil:All2 R H [] []
 |cons {x y:V}{xs ys:List V}:R x y H->All2 R H xs ys->All2 R H (x::xs) (y::ys)
end
section
variable {X:Cx}
noncomputable def rAllB (K:W.Frag):List V->Hp->VK->Prop:=fun vs H Q=>∃(p:Addr) (bs:List Bool),vs=[.ref p]∧SqL K H p (bs.map V.bl)∧Q (.bl (bs.all id)) H
noncomputable def rAnyB (K:W.Frag):List V->Hp->VK->Prop:=fun vs H Q=>∃(p:Addr) (bs:List Bool),vs=[.ref p]∧SqL K H p (bs.map V.bl)∧Q (.bl (bs.any id)) H
theorem xg {bs:List Bool}:∀{us:List Value},Vals (bs.map V.bl) us->∀(i:Nat) (v:Value),us[i]?=some v->∃b,bs[i]?=some b∧v=.bool b:=by
 induction bs with
 |nil=>intro us r i v h;rw[map_nil] at r;cases r;simp at h
 |cons b bs ih=>
  intro us r i v h;rw[map_cons] at r;cases r with
  |cons r1 r2=>
   cases i with
   |zero=>simp at h;subst h;exact⟨b,rfl,r1⟩
   |succ i=>obtain⟨c,h1,h2⟩:=ih r2 i v (by simpa using h);exact⟨c,by simpa using h1,h2⟩
theorem xh (hc:X.calm=true):CallR X (.builtin "all") (rAllB X.K):=by
 intro dl s σ H xs us Q I r h;obtain⟨p,bs,rfl,hq,q⟩:=h;obtain⟨u,rfl,ru⟩:=vals1 r;cases ru;obtain⟨ad,vs,pl,hl⟩:=I.list hq;have hI:=pl.isList;have ld:p < s.heap.objs.size:=by obtain⟨_,e,_⟩:=hI;exact Heap.lt_size e
 refine call_all_walk (wpAny_pyIter_list hI ?_);refine⟨s.heap.objs.size,[s.heap.objs.size,p],[s.heap.objs.size],ad.toArray.size,_,_,fun i=>(bs[i]?).getD true,rfl,Walks.list (A:=X.A.in1) (I.ok.hd hc) _ p (Nat.ne_of_lt ld) ad.toArray,
  ⟨⟨_,Heap.get?_push_size _ rfl,rfl,rfl⟩,hI.push _⟩,fun i v s' Q' E' hP hQ=>?_,fun h' tk hk=>?_⟩
 ·obtain⟨b,e,rfl⟩:=xg vs i v (by simpa using hP);simp only[e,Option.getD_some] at hQ;exact wpAny_truthy_bool hQ
 ·have mt:=vs.length;rw[length_map] at mt;have e:((List.range ad.toArray.size).all fun i=>(bs[i]?).getD true)=bs.all id:=by rw[size_toArray,<- mt];exact PyProof.Rows.LSm.range_all bs
  exact⟨.bl _,H,I.kept (t':=tk) (PyProof.Rows.LSm.kept_iter hk),rfl,by rw[e];exact q⟩
variable {K:W.Frag}
theorem dk (h:X.K=K)(hc:X.calm=true):CallR X (.builtin "all") (rAllB K):=by subst h;exact xh hc
noncomputable def rListU (K:W.Frag):List V->Hp->VK->Prop:=fun xs H Q=>∃p ys,xs=[.ref p]∧(SqL K H p ys∨SqT K H p ys)∧∀l,H l=none->Q (.ref l) (upd H l (.lst ys))
noncomputable def rTupleU (K:W.Frag):List V->Hp->VK->Prop:=fun xs H Q=>∃p ys,xs=[.ref p]∧((SqL K H p ys∧∀l,H l=none->Q (.ref l) (upd H l (.tup ys)))∨(SqT K H p ys∧Q (.ref p) H))
theorem cu {tg l:Expr}{tl:TE}(h:X.K=K)(hl:PE X l tl):PI X tg l (iTup K tl):=by subst h;exact uW hl
end
section
variable {H:Hp}{Q:VK}{K:W.Frag}
theorem xi {x:V}{T:String}:(rIsiU [x,.ty T] H Q)=(∃k,kindV x H=some k∧T∈["bool","int","str","list","tuple"]∧Q (.bl (subT k T)) H):=rfl
theorem xj:kindV .non H=some "NoneType" := rfl
theorem mV {b:Bool}:kindV (.bl b) H=some "bool" := rfl
theorem xk {i:Int}:kindV (.int i) H=some "int" := rfl
theorem iy {x:Str}:kindV (.str x) H=some "str" := rfl
theorem fu {p:Addr}{xs:List V}(h:H p=some (.lst xs)):kindV (.ref p) H=some "list" := by simp only[kindV,h]
theorem dm {p:Addr}{xs:List V}(h:H p=some (.tup xs)):kindV (.ref p) H=some "tuple" := by simp only[kindV,h]
theorem xl {p:Addr}{kvs:List (Key×V)}(h:H p=some (.dK kvs)):kindV (.ref p) H=some "dict" := by simp only[kindV,h]
theorem xm:("bool" ∈ ["bool","int","str","list","tuple"])=True:=by simp
theorem xn:("int" ∈ ["bool","int","str","list","tuple"])=True:=by simp
theorem xo:("str" ∈ ["bool","int","str","list","tuple"])=True:=by simp
theorem xp:("list" ∈ ["bool","int","str","list","tuple"])=True:=by simp
theorem xq:("tuple" ∈ ["bool","int","str","list","tuple"])=True:=by simp
theorem xr:subT "NoneType" "bool"=false:=by decide
theorem xt:subT "NoneType" "int"=false:=by decide
theorem xu:subT "NoneType" "str"=false:=by decide
theorem xv:subT "NoneType" "list"=false:=by decide
theorem xw:subT "NoneType" "tuple"=false:=by decide
theorem xx:subT "bool" "bool"=true:=by decide
theorem xy:subT "bool" "int"=true:=by decide
theorem xz:subT "bool" "str"=false:=by decide
theorem y0:subT "bool" "list"=false:=by decide
theorem y6:subT "bool" "tuple"=false:=by decide
theorem y8:subT "int" "bool"=false:=by decide
theorem y9:subT "int" "int"=true:=by decide
theorem yA:subT "int" "str"=false:=by decide
theorem yB:subT "int" "list"=false:=by decide
theorem yC:subT "int" "tuple"=false:=by decide
theorem yD:subT "str" "bool"=false:=by decide
theorem yE:subT "str" "int"=false:=by decide
theorem yF:subT "str" "str"=true:=by decide
theorem yG:subT "str" "list"=false:=by decide
theorem yH:subT "str" "tuple"=false:=by decide
theorem yI:subT "list" "bool"=false:=by decide
theorem yJ:subT "list" "int"=false:=by decide
theorem yK:subT "list" "str"=false:=by decide
theorem yL:subT "list" "list"=true:=by decide
theorem yM:subT "list" "tuple"=false:=by decide
theorem yN:subT "tuple" "bool"=false:=by decide
theorem yO:subT "tuple" "int"=false:=by decide
theorem yP:subT "tuple" "str"=false:=by decide
theorem yQ:subT "tuple" "list"=false:=by decide
theorem yR:subT "tuple" "tuple"=true:=by decide
theorem yS {n:Nat}{t:TGs}{v:V}{σ:St}{R:St->Hp->Prop}:(gTup K n t v σ H R)=(∃a xs,v=.ref a∧SqT K H a xs∧xs.length=n∧t xs σ H R):=rfl
theorem yT {t:TG}{u:TGs}{vs:List V}{σ:St}{R:St->Hp->Prop}:(gCons t u vs σ H R)=(∃v r,vs=v::r∧t v σ H fun σ' H'=>u r σ' H' R):=rfl
theorem yU {vs:List V}{σ:St}{R:St->Hp->Prop}:(gNil vs σ H R)=(vs=[]∧R σ H):=rfl
theorem yV {to ti:TE}{t:TSet}{v:V}{σ:St}{R:St->Hp->Prop}:(gSub to ti t v σ H R)=(to σ H fun o H1=>ti σ H1 fun i H2=>t o i v H2 fun H3=>R σ H3):=rfl
theorem yW {p:Addr}{k:Int}{v:V}{R:Hp->Prop}:rSetL (.ref p) (.int k) v H R↔∃xs j,H p=some (.lst xs)∧ixN xs.length k=some j∧R (upd H p (.lst (xs.set j v))):=by
 constructor
 ·rintro⟨p',xs,k',j,h1,h2,h3⟩;cases h1;cases h2;exact⟨xs,j,h3⟩
 ·rintro⟨xs,j,h⟩;exact⟨p,xs,k,j,rfl,rfl,h⟩
end
section
variable {X:Cx}{K:W.Frag}
theorem dq {es:List Expr}{k:Nat}{t:TGs}{n:Nat}{pos:Pos}(h:X.K=K)(hc:X.calm=true)(hg:PGs X es t)
  (hn:(assignEach es X.env).length=n:=by rfl) (hst:(assignEach es X.env).findIdx? (·.1)=none:=by rfl):PG X (.Tuple es k pos) (gTup K n t):=by
 subst h;exact lc hc hg hn hst
end
noncomputable def SameBut (p:Addr)(H H':Hp):Prop:=∀b o,b≠p->H b=some o->H' b=some o
theorem SameBut.refl (p:Addr)(H:Hp):SameBut p H H:=fun _ _ _ e=>e
theorem SameBut.trans {p:Addr}{H H' H'':Hp}(h:SameBut p H H')(h':SameBut p H' H''):SameBut p H H'':=fun b o n e=>h' b o n (h b o n e)
theorem Same.but {p:Addr}{H H':Hp}(h:Same H H'):SameBut p H H':=fun b o _ e=>h b o e
theorem bg {p:Addr}{H:Hp}{o:HO}:SameBut p H (upd H p o):=fun b u n e=>by rw[aN n];exact e
theorem SameBut.same {p:Addr}{H H':Hp}(h:SameBut p H H')(hp:H p=none):Same H H':=fun b o e=>h b o (aY e hp) e
section
variable {p:Addr}{fv:St}{te:TE}{Q:VK}{H1:Hp}{K:W.Frag}
theorem Same.tup {H H':Hp}{a:Addr}{xs:List V}(e:Same H H')(h:SqT K H a xs):SqT K H' a xs:=by
 rcases h with (h|⟨o,h⟩)|h
 ·exact .inl (.inl (e _ _ h))
 ·exact .inl (.inr ⟨o,e _ _ h⟩)
 ·exact .inr h
theorem yX {a:Addr}{xs zs:List V}(hxs:SqT K H1 a xs)(hlen:xs.length≤sizeLine)(hp:H1 p=none)(hz:zs.length=xs.length)
  (he:∀(i:Nat) (x z:V),xs[i]?=some x->zs[i]?=some z->∀(H':Hp) (T:VK),Same H1 H'->(∀H'',Same H' H''->T z H'')->te (some x::fv) H' T)
  (hQ:∀H',Same H1 H'->H' p=some (.lst zs)->Q (.ref p) H'):CompI (Itt K a) p fv tYes te Q H1:=by
 refine⟨fun i m ys H2=>m=xs.length - i∧i≤xs.length∧ys=zs.take i∧H2 p=some (.lst ys)∧Same H1 H2,⟨xs.length,by simp,Nat.zero_le _,by simp,aL,fun b o e=>by rw[aN (aY e hp)];exact e⟩,?_⟩;rintro i m ys H2 ⟨rfl,hi,rfl,ad,sm⟩;refine⟨ad,?_⟩;have q:=sm.tup hxs;by_cases ld:i < xs.length
 ·refine .inr ⟨⟨xs,xs[i],q,by simp[ld]⟩,?_,fun x H3 y=>?_⟩
  ·rw[length_take];lia
  ·obtain⟨rfl,y⟩:=y;have hc:=y xs q;have dl:zs[i]?=some zs[i]:=List.getElem?_eq_getElem (by lia);unfold tYes;dsimp only;rw[if_pos rfl];refine he i x _ hc dl _ _ sm fun H5 s5=>⟨s5 _ _ ad,xs.length - (i+1),by lia,rfl,ld,?_,aL,fun b o e=>?_⟩
   ·rw[take_add_one,dl];rfl
   ·rw[aN (aY e hp)];exact s5 _ _ (sm _ _ e)
 ·have e:i=xs.length:=by lia
  subst e;refine .inl ⟨⟨xs,q,Nat.le_refl _⟩,hQ H2 sm ?_⟩;rw[ad,<- hz,take_length]
theorem yY {a:Addr}{xs zs:List V}(hxs:SqL K H1 a xs)(hlen:xs.length≤sizeLine)(hp:H1 p=none)(hz:zs.length=xs.length)
  (he:∀(i:Nat) (x z:V),xs[i]?=some x->zs[i]?=some z->∀(H':Hp) (T:VK),Same H1 H'->(∀H'',Same H' H''->T z H'')->te (some x::fv) H' T)
  (hQ:∀H',Same H1 H'->H' p=some (.lst zs)->Q (.ref p) H'):CompI (Itl K a) p fv tYes te Q H1:=by
 refine⟨fun i m ys H2=>m=xs.length - i∧i≤xs.length∧ys=zs.take i∧H2 p=some (.lst ys)∧Same H1 H2,⟨xs.length,by simp,Nat.zero_le _,by simp,aL,fun b o e=>by rw[aN (aY e hp)];exact e⟩,?_⟩;rintro i m ys H2 ⟨rfl,hi,rfl,ad,sm⟩;refine⟨ad,?_⟩;have q:=sm.seq hxs;by_cases ld:i < xs.length
 ·refine .inr ⟨⟨xs,xs[i],q,by simp[ld]⟩,?_,fun x H3 y=>?_⟩
  ·rw[length_take];lia
  ·obtain⟨rfl,y⟩:=y;have hc:=y xs q;have dl:zs[i]?=some zs[i]:=List.getElem?_eq_getElem (by lia);unfold tYes;dsimp only;rw[if_pos rfl];refine he i x _ hc dl _ _ sm fun H5 s5=>⟨s5 _ _ ad,xs.length - (i+1),by lia,rfl,ld,?_,aL,fun b o e=>?_⟩
   ·rw[take_add_one,dl];rfl
   ·rw[aN (aY e hp)];exact s5 _ _ (sm _ _ e)
 ·have e:i=xs.length:=by lia
  subst e;refine .inl ⟨⟨xs,q,Nat.le_refl _⟩,hQ H2 sm ?_⟩;rw[ad,<- hz,take_length]
variable {σ:St}{H:Hp}{tl:TE}{tt:TT}{fr:List Nat}{g:TG}{tb:TS}{D:Ends}
theorem yZ:(tComp (iTup K tl) fr tt te σ H Q)=(tl σ H fun x H1=>∃a,x=.ref a∧(∃xs,SqT K H1 a xs)∧∀p,H1 p=none->CompI (Itt K a) p (frV σ fr) tt te Q H1):=rfl
theorem ya:(tFor (iTup K te) g tb D σ H)=(te σ H fun x H1=>∃a,x=.ref a∧(∃xs,SqT K H1 a xs)∧LoopI (Itt K a) g tb D σ H1):=rfl
theorem yb {a:Addr}{xs:List V}(Pv:Nat->St->Hp->Prop)(h0:Pv 0 σ H)(hl:∀i σ H,i≤xs.length->Pv i σ H->SqT K H a xs)
  (hs:∀i x σ H,xs[i]?=some x->Pv i σ H->g x σ H fun σ2 H2=>tb {D with nx:=Pv (i+1),ct:=Pv (i+1),bk:=D.nx} σ2 H2) (hd:∀σ H,Pv xs.length σ H->D.nx σ H):LoopI (Itt K a) g tb D σ H:=ua Pv h0 hl hs hd
theorem iz {a:Addr}:rAllB K [.ref a] H Q↔∃bs:List Bool,SqL K H a (bs.map V.bl)∧Q (.bl (bs.all id)) H:=by
 constructor
 ·rintro⟨p,bs,h1,h2⟩;cases h1;exact⟨bs,h2⟩
 ·rintro⟨bs,h⟩;exact⟨a,bs,rfl,h⟩
theorem yc {a:Addr}:rAnyB K [.ref a] H Q↔∃bs:List Bool,SqL K H a (bs.map V.bl)∧Q (.bl (bs.any id)) H:=by
 constructor
 ·rintro⟨p,bs,h1,h2⟩;cases h1;exact⟨bs,h2⟩
 ·rintro⟨bs,h⟩;exact⟨a,bs,rfl,h⟩
theorem yd {a:Addr}:rListU K [.ref a] H Q↔∃ys,(SqL K H a ys∨SqT K H a ys)∧∀l,H l=none->Q (.ref l) (upd H l (.lst ys)):=by
 constructor
 ·rintro⟨p,bs,h1,h2⟩;cases h1;exact⟨bs,h2⟩
 ·rintro⟨bs,h⟩;exact⟨a,bs,rfl,h⟩
theorem ye {a:Addr}:rTupleU K [.ref a] H Q↔∃ys,(SqL K H a ys∧∀l,H l=none->Q (.ref l) (upd H l (.tup ys)))∨(SqT K H a ys∧Q (.ref a) H):=by
 constructor
 ·rintro⟨p,bs,h1,h2⟩;cases h1;exact⟨bs,h2⟩
 ·rintro⟨bs,h⟩;exact⟨a,bs,rfl,h⟩
theorem yf {a:Addr}{lo hi:Option Int}:rSlT K (.ref a) lo hi H Q↔∃xs,SqT K H a xs∧¬ (HT.sIx xs.length 0 lo=0∧HT.sIx xs.length xs.length hi=xs.length)∧∀p,H p=none->Q (.ref p) (upd H p (.tup (cutV xs lo hi))):=by
 constructor
 ·rintro⟨p,bs,h1,h2⟩;cases h1;exact⟨bs,h2⟩
 ·rintro⟨bs,h⟩;exact⟨a,bs,rfl,h⟩
end
noncomputable def tCut (t u:TS):TS:=fun D σ H=>∃P:St->Hp->Prop,t {D with nx:=P} σ H∧∀σ' H',P σ' H'->u D σ' H'
section
variable {X:Cx}{st:Stmt}{rest:List Stmt}{t u:TS}
theorem ae (h1:PS X st t)(h2:PSs X rest u):PSs X (st::rest) (tCut t u):=by
 intro pins s σ H D I h;obtain⟨P,h,hu⟩:=h;refine wpAny_execs_cons (thn (h1 pins s σ H {D with nx:=P} I h) fun f s1 q=>?_);cases f with
 |next=>obtain⟨σ',H',I',q⟩:=q;exact h2 pins s1 σ' H' D I' (hu _ _ q)
 |ret v=>exact q
 |brk=>exact q
 |cont=>exact q
noncomputable def Later (u:TS)(D:Ends)(σ:St)(H:Hp):Prop:=u D σ H
theorem yg {D:Ends}{x:Option V}{σ:St}{H:Hp}:(Later u D (x::σ) H)=(u D (x::σ) H):=rfl
theorem yh {D:Ends}{σ:St}{H:Hp}:(tCut t u D σ H)=(∃P:St->Hp->Prop,t {D with nx:=P} σ H∧∀σ' H',P σ' H'->Later u D σ' H'):=rfl
end
theorem SameBut.free {p q:Addr}{H H':Hp}(sb:SameBut p H H')(hq:H' q=none)(hne:q≠p):H q=none:=by
 cases e:H q with
 |none=>rfl
 |some o=>rw[sb q o hne e] at hq;cases hq
theorem SameBut.upd {p q:Addr}{H H':Hp}{o:HO}(sb:SameBut p H H')(hq:H q=none):SameBut p H (upd H' q o):=fun b u n e=>by rw[aN (aY e hq)];exact sb b u n e
theorem IsTAll.snoc {H:Hp}{ds:List PyData}{xs:List V}{d:PyData}{x:V}(h:IsTAll H ds xs)(hd:IsT H d x):IsTAll H (ds++[d]) (xs++[x]):=h.append (.cons hd .nil)
theorem av {H:Hp}{p:Addr}{o:HO}(hp:H p=none):Same H (upd H p o):=fun b u e=>by rw[aN (aY e hp)];exact e
noncomputable def tTupS (t:TA):TE:=fun σ H Q=>t σ H fun xs H1=>xs.length≤sizeLine∧∀p H',H1 p=none->Same H1 H'->H' p=some (.tup xs)->Q (.ref p) H'
noncomputable def tLstS (t:TA):TE:=fun σ H Q=>t σ H fun xs H1=>xs.length≤sizeLine∧∀p H',H1 p=none->Same H1 H'->H' p=some (.lst xs)->Q (.ref p) H'
section
variable {X:Cx}{es:List Expr}{t:TA}{pos:Pos}{K:W.Frag}
theorem al {x1}(h:PA X es t):PE X (.Tuple es x1 pos) (tTupS t):=by intro ad s σ H Q I hq;refine wpAny_Tuple_spliced (thn (h pos ad s σ H _ I hq) fun us s1 ⟨xs,H1,I1,r,z,q⟩=>⟨by rw[<- r.length];exact z,?_⟩);have hf:H1 s1.heap.objs.size=none:=I1.hok.fresh (Nat.le_refl _);refine⟨.ref s1.heap.objs.size,upd H1 s1.heap.objs.size (.tup xs),I1.laid (t':=s1.toks) (fun b u e=>Heap.get?_push_of_some _ e) (Nat.le_refl _) ?_,rfl,q _ _ hf (av hf) aL⟩;exact⟨z,us,r,⟨_,Heap.get?_push_size _ rfl,rfl,_,rfl⟩⟩
theorem aw (h:PA X es t):PE X (.List es pos) (tLstS t):=by intro ad s σ H Q I hq;refine wpAny_List_spliced (thn (h pos ad s σ H _ I hq) fun us s1 ⟨xs,H1,I1,r,z,q⟩=>⟨by rw[<- r.length];exact z,?_⟩);have hf:H1 s1.heap.objs.size=none:=I1.hok.fresh (Nat.le_refl _);refine⟨.ref s1.heap.objs.size,upd H1 s1.heap.objs.size (.lst xs),I1.laid (t':=s1.toks) (fun b u e=>Heap.get?_push_of_some _ e) (Nat.le_refl _) ?_,rfl,q _ _ hf (av hf) aL⟩;exact⟨z,us,0,r,Heap.get?_push_size _ rfl⟩
noncomputable def rAddS (K:W.Frag):R2:=fun x y H Q=>match x,y with
 |.int i,.int j=>Q (.int (i+j)) H
 |.str i,.str j=>i.length+j.length≤sizeLine∧Q (.str (i++j)) H
 |.ref a,.ref b=>(∃xs zs,H a=some (.lst xs)∧H b=some (.lst zs)∧xs.length+zs.length≤sizeLine∧∀p H',H p=none->Same H H'->H' p=some (.lst (xs++zs))->Q (.ref p) H') ∨
   (∃xs ys,H a=some (.tup xs)∧H b=some (.tup ys)∧xs.length+ys.length≤sizeLine∧∀p H',Same H H'->H' p=some (.tup (xs++ys))->Q (.ref p) H')
 |_,_=>False
theorem aQ:OpR X (binaryOp .Add) (rAddS K):=by
 intro ad s σ H x y v u Q I rx ry h;refine mL ad s σ H x y v u Q I rx ry ?_;cases x with
 |int i=>
  cases y with
  |int j=>exact h
  |_=>exact h.elim
 |str i=>
  cases y with
  |str j=>exact h
  |_=>exact h.elim
 |ref a=>
  cases y with
  |ref b=>
   rcases h with⟨xs,zs,h1,h2,h3,h4⟩|h
   ·exact .inl ⟨xs,zs,h1,h2,h3,fun p hp=>h4 p _ hp (av hp) aL⟩
   ·exact .inr h
  |_=>exact h.elim
 |_=>exact h.elim
noncomputable def rListS (K:W.Frag):List V->Hp->VK->Prop:=fun xs H Q=>∃p ys,xs=[.ref p]∧(SqL K H p ys∨SqT K H p ys)∧∀l H',H l=none->Same H H'->H' l=some (.lst ys)->Q (.ref l) H'
noncomputable def rTupleS (K:W.Frag):List V->Hp->VK->Prop:=fun xs H Q=>∃p ys,xs=[.ref p]∧(SqL K H p ys∨H p=some (.tup ys))∧∀l H',Same H H'->H' l=some (.tup ys)->Q (.ref l) H'
theorem yi (h:X.K=K):CallR X (.type "list") (rListS K):=by subst h;intro pins s σ H xs us Q I r h;obtain⟨p,ys,h1,h2,h3⟩:=h;exact vc pins s σ H xs us Q I r ⟨p,ys,h1,h2,fun l hl=>h3 l _ hl (av hl) aL⟩
theorem cv (h:X.K=K):CallR X (.type "tuple") (rTupleS K):=by
 subst h;intro pins s σ H xs us Q I r h;obtain⟨p,ys,h1,h2,h3⟩:=h;rcases h2 with h2|h2
 ·exact mF pins s σ H xs us Q I r ⟨p,ys,h1,.inl ⟨h2,fun l hl=>h3 l _ (av hl) aL⟩⟩
 ·exact mF pins s σ H xs us Q I r ⟨p,ys,h1,.inr ⟨SqT.of h2,h3 p H (Same.refl _) h2⟩⟩
noncomputable def rSlS2 (K:W.Frag):V->Option Int->Option Int->Hp->VK->Prop:=fun x lo hi H Q=>∃a xs,x=.ref a∧SqT K H a xs ∧
 ¬ (HT.sIx xs.length 0 lo=0∧HT.sIx xs.length xs.length hi=xs.length)∧∀p H',H p=none->Same H H'->H' p=some (.tup (cutV xs lo hi))->Q (.ref p) H'
end
section
variable {σ:St}{H:Hp}{Q:VK}{K:W.Frag}{aa:TA}
theorem yj:(tTupS aa σ H Q)=(aa σ H fun xs H1=>xs.length≤sizeLine∧∀p H',H1 p=none->Same H1 H'->H' p=some (.tup xs)->Q (.ref p) H'):=rfl
theorem yk:(tLstS aa σ H Q)=(aa σ H fun xs H1=>xs.length≤sizeLine∧∀p H',H1 p=none->Same H1 H'->H' p=some (.lst xs)->Q (.ref p) H'):=rfl
theorem yl {i j:Int}:(rAddS K (.int i) (.int j) H Q)=(Q (.int (i+j)) H):=rfl
theorem bP {i j:Str}:(rAddS K (.str i) (.str j) H Q)=(i.length+j.length≤sizeLine∧Q (.str (i++j)) H):=rfl
theorem ym {a:Addr}:rListS K [.ref a] H Q↔∃ys,(SqL K H a ys∨SqT K H a ys)∧∀l H',H l=none->Same H H'->H' l=some (.lst ys)->Q (.ref l) H':=by
 constructor
 ·rintro⟨p,bs,h1,h2⟩;cases h1;exact⟨bs,h2⟩
 ·rintro⟨bs,h⟩;exact⟨a,bs,rfl,h⟩
theorem yn {a:Addr}:rTupleS K [.ref a] H Q↔∃ys,(SqL K H a ys∨H a=some (.tup ys))∧∀l H',Same H H'->H' l=some (.tup ys)->Q (.ref l) H':=by
 constructor
 ·rintro⟨p,bs,h1,h2⟩;cases h1;exact⟨bs,h2⟩
 ·rintro⟨bs,h⟩;exact⟨a,bs,rfl,h⟩
theorem yo {a:Addr}{lo hi:Option Int}:rSlS2 K (.ref a) lo hi H Q↔∃xs,SqT K H a xs∧¬ (HT.sIx xs.length 0 lo=0∧HT.sIx xs.length xs.length hi=xs.length)∧∀p H',H p=none->Same H H'->H' p=some (.tup (cutV xs lo hi))->Q (.ref p) H':=by
 constructor
 ·rintro⟨p,bs,h1,h2⟩;cases h1;exact⟨bs,h2⟩
 ·rintro⟨bs,h⟩;exact⟨a,bs,rfl,h⟩
end
noncomputable def rSlLS (K:W.Frag):V->Option Int->Option Int->Hp->VK->Prop:=fun x lo hi H Q=>∃a xs,x=.ref a∧SqL K H a xs∧∀p H',H p=none->Same H H'->H' p=some (.lst (cutV xs lo hi))->Q (.ref p) H'
theorem fw {X:Cx}{K:W.Frag}(h:X.K=K):SlR X (rSlLS K):=by subst h;intro pins s σ H x v vl vu lo hi sl Q I rx hs pl pu h;obtain⟨a,xs,h1,h2,h3⟩:=h;exact mD pins s σ H x v vl vu lo hi sl Q I rx hs pl pu ⟨a,xs,h1,h2,fun p hp=>h3 p _ hp (av hp) aL⟩
theorem yp {K:W.Frag}{H:Hp}{Q:VK}{a:Addr}{lo hi:Option Int}:rSlLS K (.ref a) lo hi H Q↔∃xs,SqL K H a xs∧∀p H',H p=none->Same H H'->H' p=some (.lst (cutV xs lo hi))->Q (.ref p) H':=by
 constructor
 ·rintro⟨p,bs,h1,h2⟩;cases h1;exact⟨bs,h2⟩
 ·rintro⟨bs,h⟩;exact⟨a,bs,rfl,h⟩
noncomputable def rIsB (neg:Bool):R2:=fun x y H Q=>match x,y with
 |.bl b,.bl c=>Q (.bl (if neg then !decide (b=c) else decide (b=c))) H
 |_,_=>False
theorem yq {b c:Bool}{H:Hp}{Q:VK}:(rIsB false (.bl b) (.bl c) H Q)=(Q (.bl (decide (b=c))) H):=rfl
end L2
namespace Wm
open PySem L2
noncomputable def isSg (c:Nat):Bool:=decide (32≤c) && decide (c≤126) && !decide (c=37)
noncomputable def SG:List Nat:=(List.range 127).filter isSg
noncomputable def hexd (n:Nat):Nat:=if n < 10 then 48+n else 87+n
noncomputable def fig (a:Nat):Option Nat:=if 48≤a∧a≤57 then some (a - 48) else if 97≤a∧a≤102 then some (a - 87) else if 65≤a∧a≤70 then some (a - 55) else none
noncomputable def figV (a:Nat):V:=match fig a with|some n=>.int (n:Nat)|none=>.non
noncomputable abbrev one (c:Nat):V:=.str ⟨#[c]⟩
noncomputable def sgV (n:Nat):V:=if isSg n then one n else .non
noncomputable def signOf (a b:Nat):V:=match fig a,fig b with|some h,some l=>sgV (h * 16+l)|_,_=>.non
noncomputable def signOfL:List Nat->V
 |[a,b]=>signOf a b
 |_=>.non
theorem mW {c:Nat}:c∈SG↔isSg c=true:=by
 unfold SG;rw[mem_filter,List.mem_range];constructor
 ·exact fun h=>h.2
 ·intro h;refine⟨?_,h⟩;simp only[isSg,Bool.and_eq_true,decide_eq_true_eq] at h;lia
theorem bh {c:Nat}(h:isSg c=true):32≤c∧c≤126∧c≠37:=by simp only[isSg,Bool.and_eq_true,decide_eq_true_eq,Bool.not_eq_true',decide_eq_false_iff_not] at h;lia
theorem yr:∀n,n < 16->(Str.ofString "0123456789abcdef").cps.toList[n]?=some (hexd n):=by decide +kernel
theorem fz {i:Int}{n:Nat}(e:i=(n:Int))(h:n < 16):atI (Str.ofString "0123456789abcdef").cps.toList i=some (hexd n):=by rw[e];exact aG (yr n h)
theorem mX:(Str.ofString "0123456789abcdef").length≤sizeLine:=by decide +kernel
theorem yt:∀a,a < 128->a∈(Str.ofString "0123456789abcdef").cps.toList ->
  Builtin.Str.occurrences (Str.ofString "0123456789abcdef") ⟨#[a]⟩ 0 (Str.ofString "0123456789abcdef").length 1=[(fig a).getD 0]∧(fig a).isSome=true:=by decide +kernel
theorem yu:∀a,a < 128->¬ a∈(Str.ofString "0123456789abcdef").cps.toList->a∈(Str.ofString "0123456789ABCDEF").cps.toList ->
  Builtin.Str.occurrences (Str.ofString "0123456789ABCDEF") ⟨#[a]⟩ 0 (Str.ofString "0123456789ABCDEF").length 1=[(fig a).getD 0]∧(fig a).isSome=true:=by decide +kernel
theorem yv:∀a,a < 128->¬ a∈(Str.ofString "0123456789abcdef").cps.toList->¬ a∈(Str.ofString "0123456789ABCDEF").cps.toList->fig a=none:=by decide +kernel
theorem yw:∀n,n < 127->isSg n=true->(Str.ofString " !\"#$&'()*+,-./0123456789:;<=>?@ABCDEFGHIJKLMNOPQRSTUVWXYZ[\\]^_`abcdefghijklmnopqrstuvwxyz{|}~").cps.toList[n - 32 - (if 37 < n then 1 else 0)]?=some n:=by decide +kernel
theorem mY:(Str.ofString " !\"#$&'()*+,-./0123456789:;<=>?@ABCDEFGHIJKLMNOPQRSTUVWXYZ[\\]^_`abcdefghijklmnopqrstuvwxyz{|}~").length≤sizeLine:=by decide +kernel
theorem mZ (l:List Nat)(a:Nat):∀k,((List.range k).map fun j=>a+j).filterMap (fun i=>l[i]?)=(l.drop a).take k
 |0=>by simp
 |k+1=>by
  rw[range_succ,map_append,List.filterMap_append,mZ l a k,take_add_one,List.getElem?_drop];simp only[map_cons,map_nil];cases e:l[a+k]? with
  |none=>simp[e]
  |some c=>simp[e]
noncomputable def clipI (n:Nat)(v:Int):Nat:=(max 0 (min (if v < 0 then v+n else v) n)).toNat
theorem yx (a b:Nat):sliceRange (a:Int) (b:Int) 1=(List.range (b - a)).map fun j=>a+j:=by
 unfold sliceRange;have h1:(1:Int) > 0:=by decide
 simp only[h1,if_true,Int.one_mul,Int.ediv_one];have e:(if (a:Int) < (b:Int) then (b:Int) - (a:Int)+1 - 1 else 0).toNat=b - a:=by split <;> lia
 rw[e];apply List.map_congr_left;intro j _;lia
theorem yy (lo hi:Option Int)(n:Nat):Builtin.Str.strSliceIndices lo hi 1 n=(List.range ((hi.elim n (clipI n)) - (lo.elim 0 (clipI n)))).map fun j=>(lo.elim 0 (clipI n))+j:=by
 unfold Builtin.Str.strSliceIndices;have h1:(1:Int) > 0:=by decide
 simp only[h1,if_true];rw[<- yx]
 congr 1
 ·cases lo with
  |none=>rfl
  |some v=>simp only[Option.elim_some,clipI];lia
 ·cases hi with
  |none=>rfl
  |some v=>simp only[Option.elim_some,clipI];lia
theorem j0 (l:List Nat)(lo hi:Option Int):Txt.slice (⟨l.toArray⟩:Str) lo hi=⟨((l.drop (lo.elim 0 (clipI l.length))).take ((hi.elim l.length (clipI l.length)) - (lo.elim 0 (clipI l.length)))).toArray⟩:=by
 have hl:(⟨l.toArray⟩:Str).length=l.length:=by simp[Str.length]
 have hb:hi.elim l.length (clipI l.length)≤l.length:=by
  cases hi with
  |none=>exact Nat.le_refl _
  |some v=>simp only[Option.elim_some,clipI];lia
 have ad:lo.elim 0 (clipI l.length)≤l.length:=by
  cases lo with
  |none=>exact Nat.zero_le _
  |some v=>simp only[Option.elim_some,clipI];lia
 have ef:(fun i:Nat=>(⟨l.toArray⟩:Str).cps[i]?)=fun i=>l[i]?:=by funext i;simp
 unfold Txt.slice;rw[hl,yy,ef];split
 ·rename_i h;simp only[length_map,length_range,beq_self_eq_true,Bool.true_and,beq_iff_eq] at h;have e1:lo.elim 0 (clipI l.length)=0:=by lia
  have e2:hi.elim l.length (clipI l.length)=l.length:=by lia
  rw[e1,e2];simp
 ·rw[mZ l (lo.elim 0 (clipI l.length)) ((hi.elim l.length (clipI l.length)) - (lo.elim 0 (clipI l.length)))]
theorem j3 (n k:Nat):clipI n (k:Int)=min k n:=by unfold clipI;split <;> lia
theorem yz (l:List Nat)(k:Nat):Txt.slice (⟨l.toArray⟩:Str) (some (k:Int)) none=⟨(l.drop k).toArray⟩:=by
 rw[j0];simp only[Option.elim_some,Option.elim_none,j3];by_cases h:k≤l.length
 ·rw[Nat.min_eq_left h,take_of_length_le (by simp)]
 ·rw[Nat.min_eq_right (by lia),drop_eq_nil_of_le (Nat.le_refl _),drop_eq_nil_of_le (by lia)];simp
theorem z7 (l:List Nat)(k:Nat):Txt.slice (⟨l.toArray⟩:Str) none (some (k:Int))=⟨(l.take k).toArray⟩:=by
 rw[j0];simp only[Option.elim_some,Option.elim_none,j3,drop_zero,Nat.sub_zero];by_cases h:k≤l.length
 ·rw[Nat.min_eq_left h]
 ·rw[Nat.min_eq_right (by lia),take_length,take_of_length_le (by lia)]
theorem g9 (l:List Nat)(i j:Nat):Txt.slice (⟨l.toArray⟩:Str) (some (i:Int)) (some (j:Int))=⟨((l.drop i).take (j - i)).toArray⟩:=by
 rw[j0];simp only[Option.elim_some,j3];by_cases h:i≤l.length
 ·rw[Nat.min_eq_left h];by_cases h2:j≤l.length
  ·rw[Nat.min_eq_left h2]
  ·rw[Nat.min_eq_right (by lia:l.length≤j),take_of_length_le (by simp),take_of_length_le (by simp;lia)]
 ·rw[Nat.min_eq_right (by lia:l.length≤i),drop_eq_nil_of_le (Nat.le_refl _),drop_eq_nil_of_le (by lia)];simp
theorem z8:Str.ofString ""=⟨([]:List Nat).toArray⟩:=by decide +kernel
theorem j4 (ys:List Str):Txt.join (⟨([]:List Nat).toArray⟩:Str) ys=⟨(ys.flatMap fun y=>y.cps.toList).toArray⟩:=by
 show Builtin.Str.glued _ _=_;rw[StrLaws.glued_eq_join];induction ys with
 |nil=>rfl
 |cons y r ih=>
  cases r with
  |nil=>show y=_;simp
  |cons z r=>show y++(⟨#[]⟩:Str)++Str.join ⟨#[]⟩ (z::r)=_;rw[ih];show Str.mk (y.cps++#[]++_)=_;simp[flatMap_cons]
theorem b7 (l m:List Nat):((⟨l.toArray⟩:Str)++(⟨m.toArray⟩:Str))=⟨(l++m).toArray⟩:=by show Str.mk (l.toArray++m.toArray)=_;simp
theorem ar {l m:List Nat}:((⟨l.toArray⟩:Str)=⟨m.toArray⟩)↔l=m:=by
 constructor
 ·intro h;injection h with h;injection h
 ·rintro rfl;rfl
theorem aU (l:List Nat):(⟨l.toArray⟩:Str).length=l.length:=by simp[Str.length]
theorem z9:Str.ofString "~"=⟨[126].toArray⟩:=by decide +kernel
theorem zF (l:List Nat):Txt.slice (⟨l.toArray⟩:Str) (some 1) none=⟨(l.drop 1).toArray⟩:=yz l 1
theorem du {a n:Nat}(h:fig a=some n):figV a=.int (n:Nat):=by unfold figV;rw[h]
theorem j5 {a:Nat}(h:fig a=none):figV a=.non:=by unfold figV;rw[h]
theorem zG {n:Nat}(h:isSg n=true):sgV n=one n:=by unfold sgV;rw[if_pos h]
theorem j6 {n:Nat}(h:¬ isSg n=true):sgV n=.non:=by unfold sgV;rw[if_neg h]
theorem zH {n:Nat}(h1:32≤n)(h2:n≤126)(h3:n≠37):isSg n=true:=by simp only[isSg,Bool.and_eq_true,decide_eq_true_eq,Bool.not_eq_true',decide_eq_false_iff_not];lia
theorem ma {l:List Nat}(h:l.length≠2):signOfL l=.non:=by
 match l with
 |[]=>rfl
 |[_]=>rfl
 |[_,_]=>exact absurd rfl h
 |_::_::_::_=>rfl
theorem zI {l:List Nat}(h:l.length=2):∃a b,l=[a,b]:=by
 match l,h with
 |[a,b],_=>exact⟨a,b,rfl⟩
theorem me (l:List Nat)(m k:Int)(h0:0 < k)(h:k≤l.length):∃a,a∈l∧atI l (m % k)=some a:=by
 have h1:=Int.emod_nonneg m (show k≠0 by lia);have h2:=Int.emod_lt_of_pos m h0;have h3:(m % k).toNat < l.length:=by lia
 refine⟨l[(m % k).toNat],getElem_mem _,?_⟩;have:=aG (xs:=l) (j:=(m % k).toNat) (v:=l[(m % k).toNat]) (by simp[h3]);rw[Int.toNat_of_nonneg h1] at this;exact this
noncomputable def isPl (c:Nat):Bool:=decide (48≤c∧c≤57) || decide (65≤c∧c≤90) || decide (97≤c∧c≤122) || decide (c=45) || decide (c=46) || decide (c=95)
theorem j7:∀c,c < 128->(decide (c∈(Str.ofString "abcdefghijklmnopqrstuvwxyzABCDEFGHIJKLMNOPQRSTUVWXYZ0123456789-_.").cps.toList))=isPl c:=by decide +kernel
noncomputable def wr1 (c:Nat):List Nat:=if isPl c then [c] else [126,hexd (c / 16),hexd (c % 16)]
noncomputable def wr (l:List Nat):List Nat:=l.flatMap wr1
theorem zJ (l m:List Nat):wr (l++m)=wr l++wr m:=by unfold wr;rw[List.flatMap_append]
theorem mf (c:Nat):(wr1 c).length≤3:=by unfold wr1;split <;> simp
theorem bV (l:List Nat):(wr l).length≤3 * l.length:=by
 induction l with
 |nil=>simp[wr]
 |cons c r ih=>have:=mf c;unfold wr at ih ⊢;rw[flatMap_cons,length_append,length_cons];lia
noncomputable def sgO (a b:Nat):Option Nat:=match fig a,fig b with
 |some h,some l=>if isSg (h * 16+l) then some (h * 16+l) else none
 |_,_=>none
noncomputable def oV:Option Nat->V
 |some c=>one c
 |none=>.non
theorem mh (a b:Nat):signOf a b=oV (sgO a b):=by
 unfold signOf sgO;cases fig a with
 |none=>rfl
 |some h=>
  cases fig b with
  |none=>rfl
  |some l=>simp only[sgV];split <;> rfl
noncomputable def und (fr:List Nat):List Nat->Option (List Nat)
 |[]=>some []
 |c::r=>if c=126 then match r with
   |a::b::r'=>match sgO a b with
    |some d=>(und fr r').map (d::·)
    |none=>none
   |_=>none
  else if isPl c || decide (c∈fr) then (und fr r).map (c::·) else none
theorem mi (fr:List Nat):und fr []=some []:=by unfold und;rfl
theorem mj {fr:List Nat}{a b d:Nat}{r:List Nat}(h:sgO a b=some d):und fr (126::a::b::r)=(und fr r).map (d::·):=by rw[und];simp only[if_true,h]
theorem zK {fr:List Nat}{a b:Nat}{r:List Nat}(h:sgO a b=none):und fr (126::a::b::r)=none:=by rw[und];simp only[if_true,h]
theorem zL {fr:List Nat}{r:List Nat}(h:r.length < 2):und fr (126::r)=none:=by
 match r,h with
 |[],_=>rw[und.eq_def];rfl
 |[a],_=>rw[und.eq_def];rfl
theorem ml {fr:List Nat}{c:Nat}{r:List Nat}(h:c≠126)(h2:(isPl c || decide (c∈fr))=true):und fr (c::r)=(und fr r).map (c::·):=by rw[und.eq_def];simp only[if_neg h,h2,if_true]
theorem zM {fr:List Nat}{c:Nat}{r:List Nat}(h:c≠126)(h2:¬ (isPl c || decide (c∈fr))=true):und fr (c::r)=none:=by rw[und.eq_def];simp only[if_neg h,h2,if_false];rfl
theorem zN {c:Nat}(hc:isSg c=true):sgO (hexd (c / 16)) (hexd (c % 16))=some c:=by
 have l:=bh hc;have key:∀h,h < 16->fig (hexd h)=some h:=by decide +kernel
 unfold sgO;rw[key _ (by lia),key _ (by lia)];have e:c / 16 * 16+c % 16=c:=by lia
 simp only[e,hc,if_true]
theorem zO {ns:List Int}{k:Nat}(h:k < ns.length):atI (ns.map V.int) (k:Int)=some (.int (ns.getD k 0)):=by refine aG ?_;rw[List.getElem?_map,List.getElem?_eq_getElem h,List.getD_eq_getElem?_getD,List.getElem?_eq_getElem h];rfl
theorem aI {n:Nat}(h:n≤100000):n≤sizeLine:=Nat.le_trans h (by decide)
theorem zP (f:Nat->Nat)(l:List Nat):(l.toArray).map f=(l.map f).toArray:=by simp
theorem mm (l:List Nat):(⟨l.toArray⟩:Str).cps.toList=l:=rfl
theorem zQ {H:Hp}{p:Addr}{o:HO}(hp:H p=none):Same H (upd H p o):=fun b u e=>by rw[aN (aY e hp)];exact e
noncomputable def undV:Option (List Nat)->V
 |some d=>.str ⟨d.toArray⟩
 |none=>.non
noncomputable def swV (fr:List Nat):List Nat->V
 |[]=>.non
 |c::r=>if c=126 then signOfL r else if (isPl c || decide (c∈fr))=true then one c else .non
theorem mn (fr r:List Nat):swV fr (126::r)=signOfL r:=by simp only[swV,if_true]
theorem mq {fr:List Nat}{c:Nat}(h:c≠126):swV fr [c]=if (isPl c || decide (c∈fr))=true then one c else .non:=by simp only[swV,if_neg h]
theorem zR {c:Nat}(h:c≠126):¬ ((⟨#[c]⟩:Str)=⟨#[126]⟩):=fun e=>h (by have:=ar.mp e;injection this)
theorem zS {l:List Nat}{p c:Nat}(h:l[p]?=some c):l.drop p=c::l.drop (p+1):=by obtain⟨hl,e⟩:=List.getElem?_eq_some_iff.mp h;rw[<- e];exact List.drop_eq_getElem_cons hl
theorem mr (dn:List Nat):((dn.map fun c=>(⟨[c].toArray⟩:Str)).flatMap fun y=>y.cps.toList)=dn:=by
 induction dn with
 |nil=>rfl
 |cons c r ih=>rw[map_cons,flatMap_cons,ih];rfl
theorem mv (dn:List Nat):((dn.map fun c=>(⟨[c].toArray⟩:Str)).map (·.length)).sum=dn.length:=by
 induction dn with
 |nil=>rfl
 |cons c r ih=>rw[map_cons,map_cons,sum_cons,ih,length_cons];show 1+_=_;lia
theorem mw (dn:List Nat)(d:Nat):dn.map one++[V.str ⟨#[d]⟩]=(dn++[d]).map one:=by rw[map_append];rfl
theorem zT {fr l dn:List Nat}{p a b d:Nat}{r:List Nat}(hu:und fr l=(und fr (l.drop p)).map (dn++·))(hd:l.drop p=126::a::b::r)(h:sgO a b=some d) :
  und fr l=(und fr (l.drop (p+3))).map ((dn++[d])++·):=by
 have e:l.drop (p+3)=r:=by rw[<- drop_drop,hd];rfl
 rw[hu,hd,mj h,e,Option.map_map]
 congr 1
 funext x
 simp
theorem zU {fr l dn:List Nat}{p c:Nat}{r:List Nat}(hu:und fr l=(und fr (l.drop p)).map (dn++·))(hd:l.drop p=c::r)(hc:c≠126)(h2:(isPl c || decide (c∈fr))=true) :
  und fr l=(und fr (l.drop (p+1))).map ((dn++[c])++·):=by
 have e:l.drop (p+1)=r:=by rw[<- drop_drop,hd];rfl
 rw[hu,hd,ml hc h2,e,Option.map_map]
 congr 1
 funext x
 simp
noncomputable def hit (a b c:Nat):Bool:=decide ([hexd (c / 16),hexd (c % 16)]=[PyProof.Rows.lo1 a,PyProof.Rows.lo1 b])
mutual
noncomputable def smallD:PyData->Bool
 |.str x=>decide (x.length≤100000)
 |.list xs=>decide (xs.length≤100000) && smallAll xs
 |.tuple xs=>decide (xs.length≤100000) && smallAll xs
 |.dict _=>true
 |.none=>true
 |.bool _=>true
 |.int _=>true
noncomputable def smallAll:List PyData->Bool
 |[]=>true
 |d::ds=>smallD d && smallAll ds
end
theorem my:∀{ds:List PyData}{d:PyData},smallAll ds=true->d∈ds->smallD d=true
 |e::ds,d,h,hm=>by
  simp only[smallAll,Bool.and_eq_true] at h;rcases mem_cons.mp hm with rfl|hm
  ·exact h.1
  ·exact my h.2 hm
theorem mz:∀{ds:List PyData},(∀d∈ds,smallD d=true)->smallAll ds=true
 |[],_=>rfl
 |d::ds,h=>by simp only[smallAll,Bool.and_eq_true];exact⟨h d mem_cons_self,mz fun e he=>h e (mem_cons_of_mem _ he)⟩
theorem cw {x:Str}(h:smallD (.str x)=true):x.length≤100000:=by simpa [smallD] using h
theorem zV {ds:List PyData}(h:ds.length≤100000)(h2:smallAll ds=true):smallD (.list ds)=true:=by simp[smallD,h,h2]
noncomputable def isLet (c:Nat):Bool:=decide (65≤c∧c≤90) || decide (97≤c∧c≤122)
noncomputable def isAln (c:Nat):Bool:=isLet c || decide (48≤c∧c≤57)
theorem zW:∀c,c < 128->(decide (c∈(Str.ofString "abcdefghijklmnopqrstuvwxyzABCDEFGHIJKLMNOPQRSTUVWXYZ").cps.toList))=isLet c:=by decide +kernel
theorem zX:∀c,c < 128->(decide (c∈(Str.ofString "abcdefghijklmnopqrstuvwxyzABCDEFGHIJKLMNOPQRSTUVWXYZ0123456789").cps.toList))=isAln c:=by decide +kernel
theorem zY:(Str.ofString " !\"#$&'()*+,-./0123456789:;<=>?@ABCDEFGHIJKLMNOPQRSTUVWXYZ[\\]^_`abcdefghijklmnopqrstuvwxyz{|}~").cps.toList=SG:=by decide +kernel
theorem zZ (c:Nat):(decide (c∈(Str.ofString " !\"#$&'()*+,-./0123456789:;<=>?@ABCDEFGHIJKLMNOPQRSTUVWXYZ[\\]^_`abcdefghijklmnopqrstuvwxyz{|}~").cps.toList))=isSg c:=by rw[zY,Bool.eq_iff_iff,decide_eq_true_eq,mW]
noncomputable def tx:PyData->Bool
 |.str x=>x.cps.toList.all isSg
 |_=>false
noncomputable def ftx:PyData->Bool
 |.str x=>x.cps.toList.all isSg && decide (0 < x.length)
 |_=>false
noncomputable def schD:PyData->Bool
 |.str x=>x.cps.toList.all isSg && decide (x.length≤8) && (x.cps.toList.take 1).all isLet && x.cps.toList.all isAln
 |_=>false
noncomputable def stpD:PyData->Bool
 |.tuple ds=>ds.all ftx
 |_=>false
noncomputable def tupN (n:Int):PyData->Bool
 |.tuple ds=>decide ((ds.length:Int)=n)
 |_=>false
noncomputable abbrev st (l:List Nat):PyData:=.str ⟨l.toArray⟩
noncomputable def oD:Option (List Nat)->PyData
 |none=>.none
 |some l=>st l
noncomputable def otV:Option (List Nat)->V
 |none=>.non
 |some l=>.str ⟨l.toArray⟩
theorem bY {H:Hp}(o:Option (List Nat)):IsT H (oD o) (otV o):=by
 cases o with
 |none=>exact .non
 |some x=>exact .str _
noncomputable def iD:Option Int->PyData
 |none=>.none
 |some i=>.int i
noncomputable def qD:Option (List (List Nat×Option (List Nat)))->PyData
 |none=>.none
 |some ps=>.tuple (ps.map fun p=>.tuple [st p.1,oD p.2])
structure Ad where
 scheme:List Nat
 house:Option (List Nat)
 door:Option Int
 rooted:Bool
 steps:List (List Nat)
 ends:Bool
 quest:Option (List (List Nat×Option (List Nat)))
 mark:Option (List Nat)
noncomputable def Ad.way (x:Ad):PyData:=.tuple [.bool x.rooted,.tuple (x.steps.map st),.bool x.ends]
noncomputable def Ad.data (x:Ad):PyData:=.tuple [st x.scheme,oD x.house,iD x.door,x.way,qD x.quest,oD x.mark]
noncomputable def Tx (n:Nat)(l:List Nat):Prop:=l.length≤n∧∀c∈l,isSg c=true
structure Ad.Ok (x:Ad):Prop where
 sch:x.scheme.length≤8∧(∀c∈x.scheme,isAln c=true)∧∀c∈x.scheme.take 1,isLet c=true
 hou:∀l,x.house=some l->0 < l.length∧Tx 60 l
 doo:∀i,x.door=some i->(0≤i∧i≤65535)∧x.house≠none
 stp:x.steps.length≤50∧∀l∈x.steps,0 < l.length∧Tx 60 l
 roo:x.scheme≠[]∨x.house≠none->x.rooted=true
 end_:x.steps=[]->x.ends=x.rooted
 que:∀ps,x.quest=some ps->ps.length≤20∧∀p∈ps,(0 < p.1.length∧Tx 6 p.1)∧∀v,p.2=some v->Tx 6 v
 mar:∀l,x.mark=some l->Tx 60 l
theorem j8 {c:Nat}(h:isAln c=true):isSg c=true:=by simp only[isAln,isLet,Bool.or_eq_true,decide_eq_true_eq] at h;simp only[isSg,Bool.and_eq_true,decide_eq_true_eq,Bool.not_eq_true',decide_eq_false_iff_not];lia
theorem j9 (l:List Nat):(⟨l.toArray⟩:Str).length=l.length:=aU l
noncomputable def itV:Option Int->V
 |none=>.non
 |some i=>.int i
theorem jA {H:Hp}(o:Option Int):IsT H (iD o) (itV o):=by
 cases o with
 |none=>exact .non
 |some x=>exact .int _
theorem zc (ds:List PyData):PyData.eqv (.tuple ds) (.tuple [])=ds.isEmpty:=by cases ds <;> simp[PyData.eqv,PyData.eqvAll]
theorem bZ {l:List Nat}:((⟨l.toArray⟩:Str)=⟨#[]⟩)↔l=[]:=ar (m:=[])
noncomputable def Bad (f:PyData->Bool)(H:Hp)(v:V):Prop:=∃d,Is H d v∧smallD d=true∧f d=false
noncomputable def Bads (f:PyData->Bool)(H:Hp)(vs:List V):Prop:=∀v∈vs,Bad f H v
theorem Bads.cons {f:PyData->Bool}{H:Hp}{v:V}{vs:List V}(h:Bad f H v)(r:Bads f H vs):Bads f H (v::vs):=fun w hw=>by
 rcases mem_cons.mp hw with rfl|hw
 ·exact h
 ·exact r w hw
theorem cx {q:Addr}{H H':Hp}{o:HO}(hq:H q=none)(sm:Same H H'):Same H (upd H' q o):=fun b u e=>by rw[aN (aY e hq)];exact sm _ _ e
noncomputable def dg (i:Int):List Nat:=(Str.ofString (toString i)).cps.toList
theorem gB {i:Int}(hi:0≤i):∀c∈dg i,48≤c∧c≤57:=by intro c hc;obtain⟨n,rfl⟩:=Int.eq_ofNat_of_zero_le hi;unfold dg at hc;rw[PySem.W.KIN.signs_num,mem_map] at hc;obtain⟨d,hd,rfl⟩:=hc;have:=Nat.isDigit_of_mem_toDigits (by decide) (by decide) hd;simp only[Char.isDigit,Bool.and_eq_true,decide_eq_true_eq] at this;exact⟨this.1,this.2⟩
theorem nA {i:Int}(hi:0≤i)(hi':i≤65535):(dg i).length≤5:=by have:=PyProof.Rows.toString_length_le hi (k:=5) (by decide) (by lia);simpa [dg,Str.length] using this
noncomputable def Hd (p:Nat->Bool)(r:List Nat):Prop:=∀c r',r=c::r'->p c=true
theorem Hd.nil {p:Nat->Bool}:Hd p []:=fun c r' h=>by cases h
theorem Hd.cons {p:Nat->Bool}{c:Nat}{r:List Nat}(h:p c=true):Hd p (c::r):=fun d r' e=>by injection e with e;exact e▸h
theorem cutL {p:Nat->Bool}:∀{u u' r r':List Nat},(∀c∈u,p c=false)->(∀c∈u',p c=false)->Hd p r->Hd p r'->u++r=u'++r'->u=u'∧r=r'
 |[],[],r,r',_,_,_,_,e=>⟨rfl,e⟩
 |[],c::u',r,r',_,h',hr,_,e=>by have:=hr c (u'++r') e;rw[h' c (mem_cons_self ..)] at this;cases this
 |c::u,[],r,r',h,_,_,hr',e=>by have:=hr' c (u++r) e.symm;rw[h c (mem_cons_self ..)] at this;cases this
 |c::u,d::u',r,r',h,h',hr,hr',e=>by simp only[cons_append,List.cons.injEq] at e;obtain⟨e1,e2⟩:=cutL (fun x hx=>h x (mem_cons_of_mem _ hx)) (fun x hx=>h' x (mem_cons_of_mem _ hx)) hr hr' e.2;exact⟨by rw[e.1,e1],e2⟩
noncomputable def wch (c:Nat):Bool:=isPl c || decide (c=126)
theorem nB:∀n,n < 16->isPl (hexd n)=true:=by decide +kernel
theorem gC {l:List Nat}(h:∀c∈l,isSg c=true):∀c∈wr l,wch c=true:=by
 intro c hc;unfold wr at hc;obtain⟨d,hd,hc⟩:=List.mem_flatMap.mp hc;have:=bh (h d hd);unfold wr1 at hc;split at hc
 ·next hp=>rw[mem_singleton] at hc;rw[hc,wch,hp];rfl
 ·simp only[mem_cons,not_mem_nil,or_false] at hc;rcases hc with rfl|rfl|rfl
  ·rfl
  ·rw[wch,nB _ (by lia)];rfl
  ·rw[wch,nB _ (by lia)];rfl
theorem gD {c:Nat}(h:wch c=true):c≠35∧c≠38∧c≠47∧c≠58∧c≠61∧c≠63:=by refine⟨?_,?_,?_,?_,?_,?_⟩ <;> (rintro rfl;revert h;decide +kernel)
theorem nD {c:Nat}(h:isAln c=true):wch c=true:=by simp only[isAln,isLet,Bool.or_eq_true,decide_eq_true_eq] at h;simp only[wch,isPl,Bool.or_eq_true,decide_eq_true_eq];lia
noncomputable def tlT (sep:Nat):List (List Nat)->List Nat
 |[]=>[]
 |s::r=>sep::(s++tlT sep r)
noncomputable def joinT (sep:Nat):List (List Nat)->List Nat
 |[]=>[]
 |s::r=>s++tlT sep r
theorem gE (sep:Nat)(r:List (List Nat)):Hd (fun c=>decide (c=sep)) (tlT sep r):=by
 cases r with
 |nil=>exact .nil
 |cons s r=>exact .cons (by simp)
noncomputable def Free (sep:Nat)(ss:List (List Nat)):Prop:=∀s∈ss,∀c∈s,c≠sep
theorem Free.hd {sep:Nat}{s:List Nat}{ss:List (List Nat)}(h:Free sep (s::ss)):∀c∈s,(fun c=>decide (c=sep)) c=false:=fun c hc=>decide_eq_false (h s (mem_cons_self ..) c hc)
theorem Free.tl {sep:Nat}{s:List Nat}{ss:List (List Nat)}(h:Free sep (s::ss)):Free sep ss:=fun t ht=>h t (mem_cons_of_mem _ ht)
theorem nE {sep:Nat}:∀{a b:List (List Nat)},Free sep a->Free sep b->tlT sep a=tlT sep b->a=b
 |[],[],_,_,_=>rfl
 |[],t::b,_,_,e=>by simp[tlT] at e
 |s::a,[],_,_,e=>by simp[tlT] at e
 |s::a,t::b,ha,hb,e=>by simp only[tlT,List.cons.injEq,true_and] at e;obtain⟨e1,e2⟩:=cutL ha.hd hb.hd (gE sep a) (gE sep b) e;rw[e1,nE ha.tl hb.tl e2]
theorem zj {sep:Nat}{a b:List (List Nat)}(ha:Free sep a)(hb:Free sep b)(na:a≠[])(nb:b≠[])(e:joinT sep a=joinT sep b):a=b:=by
 match a,b,na,nb with
 |s::a,t::b,_,_=>simp only[joinT] at e;obtain⟨e1,e2⟩:=cutL ha.hd hb.hd (gE sep a) (gE sep b) e;rw[e1,nE ha.tl hb.tl e2]
theorem nF (sep:Nat):∀(a:List (List Nat)) (s:List Nat),tlT sep (a++[s])=tlT sep a++sep::s
 |[],s=>by simp[tlT]
 |t::a,s=>by simp[tlT,nF sep a s]
theorem zk (sep:Nat){a:List (List Nat)}(s:List Nat)(h:a≠[]):joinT sep (a++[s])=joinT sep a++sep::s:=by
 match a,h with
 |t::a,_=>simp[joinT,nF]
theorem nG {sep:Nat}{P:Nat->Prop}(hs:P sep):∀{a:List (List Nat)},(∀s∈a,∀c∈s,P c)->∀c∈tlT sep a,P c
 |[],_,c,hc=>by cases hc
 |s::a,h,c,hc=>by
  simp only[tlT,mem_cons,mem_append] at hc;rcases hc with rfl|hc|hc
  ·exact hs
  ·exact h s (mem_cons_self ..) c hc
  ·exact nG hs (fun t ht=>h t (mem_cons_of_mem _ ht)) c hc
theorem nH {sep:Nat}{P:Nat->Prop}(hs:P sep){a:List (List Nat)}(h:∀s∈a,∀c∈s,P c):∀c∈joinT sep a,P c:=by
 intro c hc;match a with
 |[]=>cases hc
 |s::a=>
  simp only[joinT,mem_append] at hc;rcases hc with hc|hc
  ·exact h s (mem_cons_self ..) c hc
  ·exact nG hs (fun t ht=>h t (mem_cons_of_mem _ ht)) c hc
noncomputable def oT (sep:Nat):Option (List Nat)->List Nat
 |none=>[]
 |some l=>sep::wr l
noncomputable def pairT (p:List Nat×Option (List Nat)):List Nat:=wr p.1++oT 61 p.2
noncomputable def queT:Option (List (List Nat×Option (List Nat)))->List Nat
 |none=>[]
 |some ps=>63::joinT 38 (ps.map pairT)
noncomputable def wayT (r:Bool)(ss:List (List Nat))(e:Bool):List Nat:=(if r then [47] else [])++(joinT 47 (ss.map wr)++(if e && !ss.isEmpty then [47] else []))
noncomputable def dooT:Option Int->List Nat
 |none=>[]
 |some i=>58::dg i
noncomputable def houT:Option (List Nat)->List Nat
 |none=>[]
 |some l=>47::47::wr l
noncomputable def schT (s:List Nat):List Nat:=if s=[] then [] else s++[58]
noncomputable def Ad.wayT (x:Ad):List Nat:=Wm.wayT x.rooted x.steps x.ends
noncomputable def Ad.shw (x:Ad):List Nat:=schT x.scheme++(houT x.house++(dooT x.door++(x.wayT++(queT x.quest++oT 35 x.mark))))
theorem jB {sep:Nat}{P:Nat->Prop}(hs:P sep)(hw:∀c,wch c=true->P c){o:Option (List Nat)}(h:∀l,o=some l->∀c∈l,isSg c=true):∀c∈oT sep o,P c:=by
 intro c hc;cases o with
 |none=>cases hc
 |some l=>
  simp only[oT,mem_cons] at hc;rcases hc with rfl|hc
  ·exact hs
  ·exact hw c (gC (h l rfl) c hc)
noncomputable def PairOk (p:List Nat×Option (List Nat)):Prop:=(0 < p.1.length∧∀c∈p.1,isSg c=true)∧∀v,p.2=some v->∀c∈v,isSg c=true
theorem zm {P:Nat->Prop}(hs:P 61)(hw:∀c,wch c=true->P c){p:List Nat×Option (List Nat)}(h:PairOk p):∀c∈pairT p,P c:=by
 intro c hc;rcases mem_append.mp hc with hc|hc
 ·exact hw c (gC h.1.2 c hc)
 ·exact jB hs hw h.2 c hc
noncomputable def StepOk (s:List Nat):Prop:=0 < s.length∧∀c∈s,isSg c=true
noncomputable def stpT (ss:List (List Nat))(e:Bool):List Nat:=joinT 47 (ss.map wr)++(if e && !ss.isEmpty then [47] else [])
theorem zn (e:Bool):stpT [] e=[]:=by simp[stpT,joinT]
theorem nI (r:Bool)(ss:List (List Nat))(e:Bool):wayT r ss e=(if r then [47] else [])++stpT ss e:=rfl
structure Ad.Wf (x:Ad):Prop where
 sch:x.scheme.length≤8∧(∀c∈x.scheme,isAln c=true)∧∀c∈x.scheme.take 1,isLet c=true
 hou:∀l,x.house=some l->(0 < l.length∧l.length≤60)∧∀c∈l,isSg c=true
 doo:∀i,x.door=some i->(0≤i∧i≤65535)∧x.house≠none
 stp:∀s∈x.steps,StepOk s
 roo:x.scheme≠[]∨x.house≠none->x.rooted=true
 end_:x.steps=[]->x.ends=x.rooted
 que:∀ps,x.quest=some ps->∀p∈ps,PairOk p
 mar:∀l,x.mark=some l->∀c∈l,isSg c=true
theorem Ad.Ok.wf {x:Ad}(h:x.Ok):x.Wf where
 sch:=h.sch
 hou:=fun l e=>⟨⟨(h.hou l e).1,(h.hou l e).2.1⟩,(h.hou l e).2.2⟩
 doo:=h.doo
 stp:=fun s hs=>⟨(h.stp.2 s hs).1,(h.stp.2 s hs).2.2⟩
 roo:=h.roo
 end_:=h.end_
 que:=fun ps e p hp=>⟨⟨((h.que ps e).2 p hp).1.1,((h.que ps e).2 p hp).1.2.2⟩,fun v hv=>(((h.que ps e).2 p hp).2 v hv).2⟩
 mar:=fun l e=>(h.mar l e).2
noncomputable def Ad.mid (x:Ad):List Nat:=houT x.house++(dooT x.door++x.wayT)
noncomputable def Ad.pre (x:Ad):List Nat:=schT x.scheme++x.mid
theorem Ad.shw_eq (x:Ad):x.shw=(x.pre++queT x.quest)++oT 35 x.mark:=by simp[Ad.shw,Ad.pre,Ad.mid]
theorem zo {P:Nat->Prop}(hs:P 47)(hw:∀c,wch c=true->P c){ss:List (List Nat)}{e:Bool}(h:∀s∈ss,StepOk s):∀c∈stpT ss e,P c:=by
 intro c hc;rcases mem_append.mp hc with hc|hc
 ·refine nH hs (fun s hs' d hd=>?_) c hc;obtain⟨t,ht,rfl⟩:=mem_map.mp hs';exact hw d (gC (h t ht).2 d hd)
 ·split at hc
  ·rw[mem_singleton.mp hc];exact hs
  ·cases hc
theorem nJ {P:Nat->Prop}(hs:P 47)(hw:∀c,wch c=true->P c){r:Bool}{ss:List (List Nat)}{e:Bool}(h:∀s∈ss,StepOk s):∀c∈wayT r ss e,P c:=by
 intro c hc;rw[nI] at hc;rcases mem_append.mp hc with hc|hc
 ·split at hc
  ·rw[mem_singleton.mp hc];exact hs
  ·cases hc
 ·exact zo hs hw h c hc
theorem zp {c:Nat}(h:48≤c∧c≤57):wch c=true:=by simp only[wch,isPl,Bool.or_eq_true,decide_eq_true_eq];lia
theorem Ad.Wf.pre_all {P:Nat->Prop}{x:Ad}(h:x.Wf)(h1:P 47)(h2:P 58)(hw:∀c,wch c=true->P c):∀c∈x.pre,P c:=by
 intro c hc;rcases mem_append.mp hc with hc|hc
 ·unfold schT at hc;split at hc
  ·cases hc
  ·rcases mem_append.mp hc with hc|hc
   ·exact hw c (nD (h.sch.2.1 c hc))
   ·rw[mem_singleton.mp hc];exact h2
 rcases mem_append.mp hc with hc|hc
 ·cases hh:x.house with
  |none=>rw[hh] at hc;cases hc
  |some l=>
   rw[hh] at hc;simp only[houT,mem_cons] at hc;rcases hc with rfl|rfl|hc
   ·exact h1
   ·exact h1
   ·exact hw c (gC (h.hou l hh).2 c hc)
 rcases mem_append.mp hc with hc|hc
 ·cases hd:x.door with
  |none=>rw[hd] at hc;cases hc
  |some i=>
   rw[hd] at hc;simp only[dooT,mem_cons] at hc;rcases hc with rfl|hc
   ·exact h2
   ·exact hw c (zp (gB (h.doo i hd).1.1 c hc))
 ·exact nJ h1 hw h.stp c hc
theorem gF (l m:List Nat):PyData.eqv (st l) (st m)=true↔l=m:=by simp only[PyData.eqv,beq_iff_eq];exact ar
theorem cy (a b:Option (List Nat)):PyData.eqv (oD a) (oD b)=true↔a=b:=by
 match a,b with
 |none,none=>simp[oD,PyData.eqv]
 |none,some m=>simp[oD,PyData.eqv]
 |some l,none=>simp[oD,PyData.eqv]
 |some l,some m=>exact (gF l m).trans (by simp)
theorem nK (a b:Option Int):PyData.eqv (iD a) (iD b)=true↔a=b:=by
 match a,b with
 |none,none=>simp[iD,PyData.eqv]
 |none,some m=>simp[iD,PyData.eqv]
 |some l,none=>simp[iD,PyData.eqv]
 |some l,some m=>simp[iD,PyData.eqv]
theorem jC {α:Type}{f:α->PyData}(hf:∀a b,PyData.eqv (f a) (f b)=true↔a=b):∀(l m:List α),PyData.eqvAll (l.map f) (m.map f)=true↔l=m
 |[],[]=>by simp[PyData.eqvAll]
 |[],b::m=>by simp[PyData.eqvAll]
 |a::l,[]=>by simp[PyData.eqvAll]
 |a::l,b::m=>by simp only[map_cons,PyData.eqvAll,Bool.and_eq_true,List.cons.injEq];rw[hf a b,jC hf l m]
theorem jD (a b:Option (List (List Nat×Option (List Nat)))):PyData.eqv (qD a) (qD b)=true↔a=b:=by
 match a,b with
 |none,none=>simp[qD,PyData.eqv]
 |none,some m=>simp[qD,PyData.eqv]
 |some l,none=>simp[qD,PyData.eqv]
 |some l,some m=>simp only[qD,PyData.eqv,Option.some.injEq];refine jC (fun a b=>?_) l m;simp only[PyData.eqv,PyData.eqvAll,Bool.and_eq_true,Bool.and_true];rw[cy,beq_iff_eq];exact⟨fun h=>Prod.ext (ar.mp h.1) h.2,fun h=>by rw[h];exact⟨rfl,rfl⟩⟩
theorem zq (x y:Ad):PyData.eqv x.way y.way=true↔x.rooted=y.rooted∧x.steps=y.steps∧x.ends=y.ends:=by simp only[Ad.way,PyData.eqv,PyData.eqvAll,Bool.and_eq_true,Bool.and_true,beq_iff_eq];rw[jC gF]
theorem Ad.eqv_iff (x y:Ad):PyData.eqv x.data y.data=true↔x=y:=by
 simp only[Ad.data,PyData.eqv,PyData.eqvAll,Bool.and_eq_true,Bool.and_true,beq_iff_eq];rw[cy,nK,zq,jD,cy];cases x;cases y;simp only[Ad.mk.injEq];constructor
 ·rintro⟨h1,h2,h3,⟨h4,h5,h6⟩,h7,h8⟩;exact⟨ar.mp h1,h2,h3,h4,h5,h6,h7,h8⟩
 ·rintro⟨h1,h2,h3,h4,h5,h6,h7,h8⟩;exact⟨by rw[h1],h2,h3,⟨h4,h5,h6⟩,h7,h8⟩
noncomputable def LayAt (n:Nat)(d:PyData):Prop:=d.canLay0=true∧d.depth≤n
theorem LayAt.shaped {n:Nat}{d:PyData}(h:LayAt n d)(hn:n≤64):SeqAt.shaped d=true:=by unfold SeqAt.shaped;rw[h.1,decide_eq_true (Nat.le_trans h.2 hn)];rfl
theorem LayAt.le {n m:Nat}{d:PyData}(h:LayAt n d)(hn:n≤m):LayAt m d:=⟨h.1,Nat.le_trans h.2 hn⟩
theorem layAll {n:Nat}:∀{ds:List PyData},(∀d∈ds,LayAt n d)->PyData.canLayAll0 ds=true∧PyData.depthAll ds≤n
 |[],_=>⟨rfl,Nat.zero_le _⟩
 |d::ds,h=>by obtain⟨h1,h2⟩:=layAll (ds:=ds) fun e he=>h e (mem_cons_of_mem _ he);have:=h d (mem_cons_self ..);simp only[PyData.canLayAll0,PyData.depthAll,this.1,h1,Bool.and_self,true_and];exact Nat.max_le.mpr ⟨this.2,h2⟩
theorem LayAt.tup {n:Nat}{ds:List PyData}(h:∀d∈ds,LayAt n d):LayAt (n+1) (.tuple ds):=by obtain⟨h1,h2⟩:=layAll h;exact⟨by simp only[PyData.canLay0,h1],by simp only[PyData.depth];lia⟩
theorem LayAt.st {l:List Nat}(h:∀c∈l,isSg c=true):LayAt 0 (st l):=by refine⟨?_,Nat.le_refl _⟩;simp only[PyData.canLay0,PyData.strOk,List.all_toArray,all_eq_true,decide_eq_true_eq];intro c hc;have:=bh (h c hc);lia
theorem LayAt.bool {b:Bool}:LayAt 0 (.bool b):=⟨rfl,Nat.le_refl _⟩
theorem LayAt.oD {o:Option (List Nat)}(h:∀l,o=some l->∀c∈l,isSg c=true):LayAt 0 (oD o):=by
 cases o with
 |none=>exact⟨rfl,Nat.le_refl _⟩
 |some l=>exact .st (h l rfl)
theorem LayAt.iD {o:Option Int}:LayAt 0 (iD o):=by
 cases o with
 |none=>exact⟨rfl,Nat.le_refl _⟩
 |some l=>exact⟨rfl,Nat.le_refl _⟩
theorem LayAt.qD {q:Option (List (List Nat×Option (List Nat)))}(h:∀ps,q=some ps->∀p∈ps,PairOk p):LayAt 2 (qD q):=by
 cases q with
 |none=>exact⟨rfl,Nat.zero_le _⟩
 |some ps=>
  refine .tup (n:=1) fun d hd=>?_;obtain⟨p,hp,rfl⟩:=mem_map.mp hd;have hk:=h ps rfl p hp;refine .tup (n:=0) fun e he=>?_;simp only[mem_cons,not_mem_nil,or_false] at he;rcases he with rfl|rfl
  ·exact .st hk.1.2
  ·exact .oD hk.2
theorem Ad.Wf.layWay {x:Ad}(h:x.Wf):LayAt 2 x.way:=by
 refine .tup (n:=1) fun e he=>?_;simp only[mem_cons,not_mem_nil,or_false] at he;rcases he with rfl|rfl|rfl
 ·exact LayAt.bool.le (by decide)
 ·refine .tup (n:=0) fun d hd=>?_;obtain⟨s,hs,rfl⟩:=mem_map.mp hd;exact .st (h.stp s hs).2
 ·exact LayAt.bool.le (by decide)
theorem Ad.Wf.lay {x:Ad}(h:x.Wf):LayAt 3 x.data:=by
 refine .tup (n:=2) fun e he=>?_;simp only[mem_cons,not_mem_nil,or_false] at he;rcases he with rfl|rfl|rfl|rfl|rfl|rfl
 ·exact (LayAt.st fun c hc=>j8 (h.sch.2.1 c hc)).le (by decide)
 ·exact (LayAt.oD fun l e=>(h.hou l e).2).le (by decide)
 ·exact LayAt.iD.le (by decide)
 ·exact h.layWay
 ·exact .qD h.que
 ·exact (LayAt.oD h.mar).le (by decide)
theorem Ad.Wf.shaped {x:Ad}(h:x.Wf):SeqAt.shaped x.data=true:=h.lay.shaped (by decide)
theorem nL {H:Hp}{l:List Nat}{v:V}(h:IsT H (st l) v):v=.str ⟨l.toArray⟩:=by cases h;rfl
theorem nM {H:Hp}{o:Option (List Nat)}{v:V}(h:IsT H (oD o) v):v=otV o:=by
 cases o with
 |none=>cases h;rfl
 |some l=>exact nL h
theorem zr {H:Hp}{o:Option Int}{v:V}(h:IsT H (iD o) v):v=itV o:=by
 cases o with
 |none=>cases h;rfl
 |some l=>cases h;rfl
theorem dv {H:Hp}{ds:List PyData}{v:V}(h:IsT H (.tuple ds) v):∃p xs,v=.ref p∧H p=some (.tup xs)∧IsTAll H ds xs:=by
 cases h with
 |tup h1 h2=>exact⟨_,_,rfl,h1,h2⟩
theorem isT2 {H:Hp}{a b:PyData}{v:V}(h:IsT H (.tuple [a,b]) v):∃p x y,v=.ref p∧H p=some (.tup [x,y])∧IsT H a x∧IsT H b y:=by
 obtain⟨p,xs,rfl,hp,r⟩:=dv h;cases r with
 |cons h1 r=>cases r with
  |cons h2 r=>cases r;exact⟨p,_,_,rfl,hp,h1,h2⟩
theorem isT6 {H:Hp}{a b c d e f:PyData}{v:V}(h:IsT H (.tuple [a,b,c,d,e,f]) v):∃p x0 x1 x2 x3 x4 x5,v=.ref p∧H p=some (.tup [x0,x1,x2,x3,x4,x5])∧IsT H a x0∧IsT H b x1∧IsT H c x2∧IsT H d x3∧IsT H e x4∧IsT H f x5:=by
 obtain⟨p,xs,rfl,hp,r⟩:=dv h;cases r with
 |cons h1 r=>cases r with
  |cons h2 r=>cases r with
   |cons h3 r=>cases r with
    |cons h4 r=>cases r with
     |cons h5 r=>cases r with
      |cons h6 r=>cases r;exact⟨p,_,_,_,_,_,_,rfl,hp,h1,h2,h3,h4,h5,h6⟩
end Wm
namespace Wm
structure Ad.Sz (x:Ad):Prop where
 stp:∀s∈x.steps,s.length≤2000
 que:∀ps,x.quest=some ps->ps.length≤2000∧∀p∈ps,p.1.length≤2000∧∀v,p.2=some v->v.length≤2000
 mar:∀l,x.mark=some l->l.length≤2000
 num:x.steps.length≤2000
 all:x.shw.length≤90000
theorem lg {i:Int}(h:0≤i)(h':i≤65535):i.natAbs.log2 < 1920:=by
 by_cases h0:i.natAbs=0
 ·rw[h0];simp
 ·refine (Nat.log2_lt h0).mpr (Nat.lt_of_lt_of_le (show i.natAbs < 2 ^ 16 by lia) (Nat.pow_le_pow_right (by decide) (by decide)))
theorem nN (i:Int):PySem.Str.ofString (toString i)=⟨(dg i).toArray⟩:=rfl
end Wm
namespace Wm
open PySem L2
theorem nO (sep:Nat)(ys:List (List Nat)):Txt.join (⟨[sep].toArray⟩:Str) (ys.map fun l=>(⟨l.toArray⟩:Str))=⟨(joinT sep ys).toArray⟩:=by
 show Builtin.Str.glued _ _=_;rw[StrLaws.glued_eq_join];induction ys with
 |nil=>rfl
 |cons y r ih=>
  cases r with
  |nil=>show (⟨y.toArray⟩:Str)=_;simp[joinT,tlT]
  |cons z r=>show (⟨y.toArray⟩:Str)++(⟨[sep].toArray⟩:Str)++Str.join ⟨[sep].toArray⟩ ((z::r).map fun l=>(⟨l.toArray⟩:Str))=_;rw[ih,b7,b7];simp[joinT,tlT]
theorem nP {sep:Nat}:∀(ys:List (List Nat)),(tlT sep ys).length=(ys.map (·.length)).sum+ys.length
 |[]=>rfl
 |y::r=>by simp only[tlT,length_cons,length_append,map_cons,sum_cons,nP r];lia
theorem nQ {sep:Nat}(ys:List (List Nat)):(ys.map (·.length)).sum+ys.length≤(joinT sep ys).length+1:=by
 cases ys with
 |nil=>simp[joinT]
 |cons y r=>simp only[joinT,length_append,map_cons,sum_cons,length_cons,nP];lia
theorem nR {sep m:Nat}:∀{ys:List (List Nat)},(∀s∈ys,s.length≤m)->(tlT sep ys).length≤ys.length * (m+1)
 |[],_=>by simp[tlT]
 |y::r,h=>by have h1:=h y (mem_cons_self ..);have h2:=nR (sep:=sep) (ys:=r) fun s hs=>h s (mem_cons_of_mem _ hs);simp only[tlT,length_cons,length_append,Nat.add_mul,Nat.one_mul];lia
theorem zt {sep m:Nat}{ys:List (List Nat)}(h:∀s∈ys,s.length≤m):(joinT sep ys).length≤ys.length * (m+1):=by
 cases ys with
 |nil=>simp[joinT]
 |cons y r=>have h1:=h y (mem_cons_self ..);have h2:=nR (sep:=sep) (ys:=r) fun s hs=>h s (mem_cons_of_mem _ hs);simp only[joinT,length_cons,length_append,Nat.add_mul,Nat.one_mul];lia
theorem nS {sep n:Nat}{o:Option (List Nat)}(h:∀l,o=some l->l.length≤n):(oT sep o).length≤3 * n+1:=by
 cases o with
 |none=>simp[oT]
 |some l=>have:=h l rfl;have:=bV l;simp only[oT,length_cons];lia
theorem nT (ts:List (List Nat)):(ts.map fun l=>(⟨l.toArray⟩:Str)).map (·.length)=ts.map List.length:=by rw[map_map];apply List.map_congr_left;intro l _;exact aU l
theorem zu {a:V}{r:List V}:atI (a::r) 0=some a:=by unfold atI ixN;simp
noncomputable def slT (r:Bool)(ts:List (List Nat))(e:Bool):List Nat:=(if r then [47] else [])++(joinT 47 ts++(if e && !ts.isEmpty then [47] else []))
theorem zv (r:Bool)(ss:List (List Nat))(e:Bool):wayT r ss e=slT r (ss.map wr) e:=by unfold wayT slT;simp
end Wm
namespace L2
open PySem
end L2
namespace Wm
open PySem L2
noncomputable abbrev Stp:=List Nat
noncomputable def sUp:Stp:=[46,46]
noncomputable def sStay:Stp:=[46]
noncomputable def isDot (s:Stp):Bool:=decide (s=sUp) || decide (s=sStay)
theorem gG {s:Stp}:isDot s=false↔s≠sUp∧s≠sStay:=by simp[isDot]
noncomputable def fwd (r:Bool)(q:Nat×List Stp)(s:Stp):Nat×List Stp:=
 if s=sUp then (match q.2 with|[]=>(if r then q.1 else q.1+1,[])|_::t=>(q.1,t))
 else if s=sStay then q else (q.1,s::q.2)
noncomputable def goneS (r:Bool)(ss:List Stp):List Stp:=List.replicate (ss.foldl (fwd r) (0,[])).1 sUp++(ss.foldl (fwd r) (0,[])).2.reverse
noncomputable def lastDot (ss:List Stp):Bool:=match ss.getLast? with|some s=>isDot s|none=>false
noncomputable def goneW (r:Bool)(ss:List Stp)(e:Bool):Bool×List Stp×Bool:=
 if ss=[] then (r,[],e) else if goneS r ss=[] then (r,if r then [] else [sStay],true) else (r,goneS r ss,e || lastDot ss)
noncomputable def stk (q:Nat×List Stp):List Stp:=List.replicate q.1 sUp++q.2.reverse
end Wm
namespace L2
open PySem PySem.Spec PyProof.Rows HT
section
variable {prog:Program}{w:World}{A:Around}{E:Value->Shared->Prop}{s:Shared}
theorem zw {t sl:Addr}{items:Array Value}{vl vu:Value}{lo hi:Option Int}{Q:Value->Shared->Prop}(ht:IsTup s.heap t items)(hs:s.heap.IsSliceOf sl vl vu .none)(pl:IsPart vl lo)(pu:IsPart vu hi)
  (hw:sIx items.size 0 lo=0∧sIx items.size items.size hi=items.size) (h:Q (.ref t) s):wpAny (model prog w) A (getItem (.ref t) (.ref sl)) Q E s:=by
 obtain⟨os,ad,dl,mt⟩:=id hs;have ld:s.TypeIs (.ref sl) "slice" := ⟨os,ad,dl⟩;unfold getItem;try with_reducible refine wpAny_holding ?_
 first|refine wpAny_bind (wpAny_pure ?_)|skip
 refine wpAny_bind (wpAny_sequenceKey ht.typeIs (by decide) ?_);refine wpAny_bind (wpAny_callSpecial?_slot (name:=Str.ofString "__getitem__") ht.typeIs PyProof.Rows.slot_tuple_getitem
  (wpAny_call_entry PyProof.Rows.slot_tuple_getitem ht.typeIs entry_tuple_getitem ?_ (args_tuple_getitem _ _)))
 show wpAny _ _ (Builtin.Tuple.tupleItemsOf (.ref t) >>= _) _ _ s;refine wpAny_bind (tupleItemsOf_ ht ?_);refine wpAny_bind (wpAny_typeOf ld ?_);rw[if_pos (by decide)];refine wpAny_bind (mB hs pl pu ?_);show wpAny _ _ (if (((sIx items.size 0 lo:Nat):Int) == 0 && (1:Int) == 1 && (sIx items.size items.size hi - sIx items.size 0 lo) == items.size)=true then _ else _) _ _ s;rw[if_pos (by rw[hw.1,hw.2];simp)];refine wpAny_bind ?_;show wpAny _ _ (typeOf (.ref t) >>= _) _ _ s;refine wpAny_bind (wpAny_typeOf ht.typeIs (wpAny_pure ?_));rw[if_pos (by decide)];exact wpAny_bind (wpAny_rule (wpAny_pure ⟨_,rfl,wpAny_pure h⟩))
end
section
variable {X:Cx}{K:W.Frag}
noncomputable def rSlTA:V->Option Int->Option Int->Hp->VK->Prop:=fun x lo hi H Q=>∃a xs,x=.ref a∧H a=some (.tup xs)∧∀p H',Same H H'->H' p=some (.tup (cutV xs lo hi))->Q (.ref p) H'
theorem zx {xs:List V}{lo hi:Option Int}(h:sIx xs.length 0 lo=0∧sIx xs.length xs.length hi=xs.length):cutV xs lo hi=xs:=by unfold cutV;rw[h.1,h.2,drop_zero,Nat.sub_zero,take_length]
theorem bi:SlR X rSlTA:=by
 intro ad s σ H x v vl vu lo hi sl Q I rx hs pl pu h;obtain⟨a,xs,rfl,hx,q⟩:=h;by_cases hw:sIx xs.length 0 lo=0∧sIx xs.length xs.length hi=xs.length
 ·cases rx;obtain⟨ld,r,ht,hz⟩:=I.tuple (SqT.of hx);have dl:ld.toArray.size=xs.length:=by rw[size_toArray];exact r.length.symm
  refine⟨"tuple",_,PyProof.Rows.slot_tuple_getitem.lookup,ht.typeIs,?_⟩;exact zw ht hs pl pu (by rw[dl];exact hw) ⟨.ref a,H,I,rfl,q a H (Same.refl _) (by rw[zx hw];exact hx)⟩
 ·exact vM ad s σ H _ v vl vu lo hi sl Q I rx hs pl pu ⟨a,xs,rfl,SqT.of hx,hw,fun p hp=>q p _ (av hp) aL⟩
theorem nU {a:Addr}{lo hi:Option Int}{H:Hp}{Q:VK}:rSlTA (.ref a) lo hi H Q↔∃xs,H a=some (.tup xs)∧∀p H',Same H H'->H' p=some (.tup (cutV xs lo hi))->Q (.ref p) H':=by
 constructor
 ·rintro⟨p,bs,h1,h2⟩;cases h1;exact⟨bs,h2⟩
 ·rintro⟨bs,h⟩;exact⟨a,bs,rfl,h⟩
end
mutual
inductive IsK (K:W.Frag)(H:Hp):PyData->V->Prop
 |non:IsK K H .none .non
 |bl (b:Bool):IsK K H (.bool b) (.bl b)
 |int (i:Int):IsK K H (.int i) (.int i)
 |str (x:Str):IsK K H (.str x) (.str x)
 |tup {p:Addr}{xs:List V}{ds:List PyData}:SqT K H p xs->IsKAll K H ds xs->IsK K H (.tuple ds) (.ref p)
inductive IsKAll (K:W.Frag)(H:Hp):List PyData->List V->Prop
 |nil:IsKAll K H [] []
 |cons {d:PyData}{x:V}{ds:List PyData}{xs:List V}:IsK K H d x->IsKAll K H ds xs->IsKAll K H (d::ds) (x::xs)
end
section
variable {K:W.Frag}{H H':Hp}
mutual
theorem IsK.mono (sm:Same H H'):∀{d:PyData}{x:V},IsK K H d x->IsK K H' d x
 |_,_,.non=>.non
 |_,_,.bl b=>.bl b
 |_,_,.int i=>.int i
 |_,_,.str x=>.str x
 |_,_,.tup h r=>.tup (sm.tup h) (IsKAll.mono sm r)
theorem IsKAll.mono (sm:Same H H'):∀{ds:List PyData}{xs:List V},IsKAll K H ds xs->IsKAll K H' ds xs
 |_,_,.nil=>.nil
 |_,_,.cons h r=>.cons (IsK.mono sm h) (IsKAll.mono sm r)
end
mutual
theorem IsT.k:∀{d:PyData}{x:V},IsT H d x->IsK K H d x
 |_,_,.non=>.non
 |_,_,.bl b=>.bl b
 |_,_,.int i=>.int i
 |_,_,.str x=>.str x
 |_,_,.tup h r=>.tup (SqT.of h) (IsTAll.k r)
theorem IsTAll.k:∀{ds:List PyData}{xs:List V},IsTAll H ds xs->IsKAll K H ds xs
 |_,_,.nil=>.nil
 |_,_,.cons h r=>.cons (IsT.k h) (IsTAll.k r)
end
end
section
variable {X:Cx}{pins:List (Addr×Obj)}{σ:St}{H:Hp}{s:Shared}
mutual
theorem IsK.reads (I:Inv X pins σ H s):∀{d:PyData}{x:V}{v:Value},IsK X.K H d x->RelV x v->∃as,Reads s.heap v d as
 |_,_,_,.non,r=>by cases r;exact⟨_,.none⟩
 |_,_,_,.bl b,r=>by cases r;exact⟨_,.bool b⟩
 |_,_,_,.int i,r=>by obtain⟨t,rfl⟩:=r;exact⟨_,.int i t⟩
 |_,_,_,.str x,r=>by obtain⟨t,rfl⟩:=r;exact⟨_,.str x t⟩
 |_,_,_,.tup h q,r=>by cases r;obtain⟨its,vs,⟨o,e,c,n,dt⟩,_⟩:=I.tuple h;obtain⟨as,ra⟩:=IsKAll.reads I q vs;exact⟨_,.tuple e c dt (by simpa using ra)⟩
theorem IsKAll.reads (I:Inv X pins σ H s):∀{ds:List PyData}{xs:List V}{vs:List Value},IsKAll X.K H ds xs->Vals xs vs->∃as,ReadsAll s.heap vs ds as
 |_,_,_,.nil,r=>by cases r;exact⟨_,.nil⟩
 |_,_,_,.cons q t,r=>by
  cases r with
  |cons r1 r2=>obtain⟨as,h1⟩:=IsK.reads I q r1;obtain⟨bs,h2⟩:=IsKAll.reads I t r2;exact⟨_,.cons h1 h2⟩
end
variable {K:W.Frag}
noncomputable def rSlX (K:W.Frag):V->Option Int->Option Int->Hp->VK->Prop:=fun x lo hi H Q=>∃a xs,x=.ref a∧SqT K H a xs∧∀p H',Same H H'->SqT K H' p (cutV xs lo hi)->Q (.ref p) H'
theorem zy {a:Addr}{lo hi:Option Int}{H:Hp}{Q:VK}:rSlX K (.ref a) lo hi H Q↔∃xs,SqT K H a xs∧∀p H',Same H H'->SqT K H' p (cutV xs lo hi)->Q (.ref p) H':=by
 constructor
 ·rintro⟨p,bs,h1,h2⟩;cases h1;exact⟨bs,h2⟩
 ·rintro⟨bs,h⟩;exact⟨a,bs,rfl,h⟩
noncomputable def rCatX (K:W.Frag):R2:=fun x y H Q=>∃a b xs ys,x=.ref a∧y=.ref b∧SqT K H a xs∧SqT K H b ys∧xs.length+ys.length≤sizeLine∧∀p H',Same H H'->SqT K H' p (xs++ys)->Q (.ref p) H'
theorem zz {a b:Addr}{H:Hp}{Q:VK}:rCatX K (.ref a) (.ref b) H Q↔∃xs ys,SqT K H a xs∧SqT K H b ys∧xs.length+ys.length≤sizeLine∧∀p H',Same H H'->SqT K H' p (xs++ys)->Q (.ref p) H':=by
 constructor
 ·rintro⟨p,p',xs,ys,h1,h2,h3⟩;cases h1;cases h2;exact⟨xs,ys,h3⟩
 ·rintro⟨xs,ys,h⟩;exact⟨a,b,xs,ys,rfl,rfl,h⟩
noncomputable def KindK (K:W.Frag)(H:Hp)(x:V)(k:String):Prop:=kindV x H=some k∨∃a xs,x=.ref a∧SqT K H a xs∧k = "tuple"
theorem KindK.tup {K:W.Frag}{H:Hp}{a:Addr}{xs:List V}(h:SqT K H a xs):KindK K H (.ref a) "tuple" := .inr ⟨a,xs,rfl,h,rfl⟩
noncomputable def rIsiX (K:W.Frag):List V->Hp->VK->Prop:=fun vs H Q=>match vs with
 |[x,.ty T]=>∃k,KindK K H x k∧T∈["bool","int","str","list","tuple"]∧Q (.bl (subT k T)) H
 |_=>False
theorem A0 {x:V}{T:String}{H:Hp}{Q:VK}:(rIsiX K [x,.ty T] H Q)=(∃k,KindK K H x k∧T∈["bool","int","str","list","tuple"]∧Q (.bl (subT k T)) H):=rfl
end
end L2
namespace Wm
open PySem L2
section
variable {K:W.Frag}{H:Hp}
theorem gH {l:List Nat}{v:V}(h:IsK K H (st l) v):v=.str ⟨l.toArray⟩:=by cases h;rfl
theorem jE {o:Option (List Nat)}{v:V}(h:IsK K H (oD o) v):v=otV o:=by
 cases o with
 |none=>cases h;rfl
 |some l=>exact gH h
theorem A1 {o:Option Int}{v:V}(h:IsK K H (iD o) v):v=itV o:=by
 cases o with
 |none=>cases h;rfl
 |some l=>cases h;rfl
theorem nV {b:Bool}{v:V}(h:IsK K H (.bool b) v):v=.bl b:=by cases h;rfl
theorem dw {ds:List PyData}{v:V}(h:IsK K H (.tuple ds) v):∃p xs,v=.ref p∧SqT K H p xs∧IsKAll K H ds xs:=by
 cases h with
 |tup h1 h2=>exact⟨_,_,rfl,h1,h2⟩
theorem isK2 {a b:PyData}{v:V}(h:IsK K H (.tuple [a,b]) v):∃p x y,v=.ref p∧SqT K H p [x,y]∧IsK K H a x∧IsK K H b y:=by
 obtain⟨p,xs,rfl,hp,r⟩:=dw h;cases r with
 |cons h1 r=>cases r with
  |cons h2 r=>cases r;exact⟨p,_,_,rfl,hp,h1,h2⟩
theorem isK3 {a b c:PyData}{v:V}(h:IsK K H (.tuple [a,b,c]) v):∃p x y z,v=.ref p∧SqT K H p [x,y,z]∧IsK K H a x∧IsK K H b y∧IsK K H c z:=by
 obtain⟨p,xs,rfl,hp,r⟩:=dw h;cases r with
 |cons h1 r=>cases r with
  |cons h2 r=>cases r with
   |cons h3 r=>cases r;exact⟨p,_,_,_,rfl,hp,h1,h2,h3⟩
theorem isK6 {a b c d e f:PyData}{v:V}(h:IsK K H (.tuple [a,b,c,d,e,f]) v):∃p x0 x1 x2 x3 x4 x5,v=.ref p∧SqT K H p [x0,x1,x2,x3,x4,x5]∧IsK K H a x0∧IsK K H b x1∧IsK K H c x2∧IsK K H d x3∧IsK K H e x4∧IsK K H f x5:=by
 obtain⟨p,xs,rfl,hp,r⟩:=dw h;cases r with
 |cons h1 r=>cases r with
  |cons h2 r=>cases r with
   |cons h3 r=>cases r with
    |cons h4 r=>cases r with
     |cons h5 r=>cases r with
      |cons h6 r=>cases r;exact⟨p,_,_,_,_,_,_,rfl,hp,h1,h2,h3,h4,h5,h6⟩
theorem nW:∀{ss:List (List Nat)}{xs:List V},IsKAll K H (ss.map st) xs->xs=ss.map fun l=>V.str ⟨l.toArray⟩
 |[],_,h=>by cases h;rfl
 |s::ss,_,h=>by
  cases h with
  |cons h1 h2=>rw[gH h1,nW h2];rfl
theorem A2 {r e:Bool}{ss:List (List Nat)}{v:V}(h:IsK K H (.tuple [.bool r,.tuple (ss.map st),.bool e]) v):∃p q,v=.ref p∧SqT K H p [.bl r,.ref q,.bl e]∧SqT K H q (ss.map fun l=>V.str ⟨l.toArray⟩):=by obtain⟨p,x,y,z,rfl,hp,h1,h2,h3⟩:=isK3 h;cases nV h1;cases nV h3;obtain⟨q,xs,rfl,hq,r⟩:=dw h2;cases nW r;exact⟨p,q,rfl,hp,hq⟩
theorem A3 {x:Ad}{v:V}(h:IsK K H x.data v):∃p w q,v=.ref p∧SqT K H p [.str ⟨x.scheme.toArray⟩,otV x.house,itV x.door,w,q,otV x.mark]∧IsK K H x.way w∧IsK K H (qD x.quest) q:=by obtain⟨p,x0,x1,x2,x3,x4,x5,rfl,hp,i0,i1,i2,i3,i4,i5⟩:=isK6 (show IsK K H (.tuple [st x.scheme,oD x.house,iD x.door,x.way,qD x.quest,oD x.mark]) v from h);cases gH i0;cases jE i1;cases A1 i2;cases jE i5;exact⟨p,x3,x4,rfl,hp,i3,i4⟩
end
end Wm
namespace L2
open PySem PySem.Spec PyProof.Rows
theorem Vals.at {xs:List V}{us:List Value}(h:Vals xs us):∀(i:Nat),(∃x u,xs[i]?=some x∧us[i]?=some u∧RelV x u)∨(xs[i]?=none∧us[i]?=none):=by
 induction h with
 |nil=>intro i;exact .inr ⟨by simp,by simp⟩
 |cons r _ ih=>
  intro i;cases i with
  |zero=>exact .inl ⟨_,_,rfl,rfl,r⟩
  |succ i=>simpa using ih i
theorem Vals.pick {xs:List V}{us:List Value}(h:Vals xs us):∀(l:List Nat),Vals (l.filterMap fun i=>xs[i]?) (l.filterMap fun i=>us[i]?)
 |[]=>.nil
 |i::l=>by
  rcases h.at i with⟨x,u,h1,h2,r⟩|⟨h1,h2⟩
  ·rw[List.filterMap_cons_some h1,List.filterMap_cons_some h2];exact .cons r (h.pick l)
  ·rw[List.filterMap_cons_none h1,List.filterMap_cons_none h2];exact h.pick l
noncomputable def pickV {α:Type}(xs:List α)(lo hi st:Option Int):List α:=
 (sliceRange (sliceBounds lo hi st xs.length).1 (sliceBounds lo hi st xs.length).2.1 (sliceBounds lo hi st xs.length).2.2).filterMap fun i=>xs[i]?
section
variable {X:Cx}
noncomputable def tSl3 (K:W.Frag)(te:TE)(tl th ts:TO):TE:=fun σ H Q=>te σ H fun x H1=>tl σ H1 fun l H2=>th σ H2 fun u H3=>ts σ H3 fun k H4=>
 ∃a xs,x=.ref a∧SqL K H4 a xs∧k≠some 0∧(pickV xs l u k).length≤sizeLine∧∀p,H4 p=none->Q (.ref p) (upd H4 p (.lst (pickV xs l u k)))
theorem A4 {e:Expr}{lo hi:Option Expr}{st:Expr}{te:TE}{tl th ts:TO}{p2 pos:Pos}(he:PE X e te)(hl:PO X lo tl)(hu:PO X hi th)(hs:PO X (some st) ts):PE X (.Subscript e (.Slice lo hi (some st) p2) pos) (tSl3 X.K te tl th ts):=by
 intro ad s σ H Q I h;refine Subscript_ (thn (he ad s σ H _ I h) fun v s1 W'=>?_);obtain⟨x,H1,I1,r1,q1⟩:=W';refine wpAny_Slice (thn (hl ad s1 σ H1 _ I1 q1) fun vl s2 ⟨l,H2,I2,pl,q2⟩=>thn (hu ad s2 σ H2 _ I2 q2) fun vu s3 ⟨u,H3,I3,pu,q3⟩=>thn (hs ad s3 σ H3 _ I3 q3) fun vs s4 W'=>?_);obtain⟨k,H4,I4,ps,q4⟩:=W';have I5:Inv X ad σ H4 {s4 with heap:=s4.heap.push {cls:=.type "slice",data:=.fields #[vl,vu,vs]} }:=I4.kept (t':=s4.toks) fun b ob q=>Heap.get?_push_of_some _ q;obtain⟨a,xs,rfl,hx,hk,hz,q⟩:=q4;cases r1;obtain⟨dl,r,ht,_⟩:=I5.list hx;have ld:=r.length;show wpAny (model X.prog X.w) X.A (subscriptTail e (.Slice lo hi (some st) p2) (.ref a) (.ref s4.heap.objs.size)) (EP X ad σ Q) X.xe {s4 with heap:=s4.heap.push {cls:=.type "slice",data:=.fields #[vl,vu,vs]} };refine tail_any (ops:=[.ref a,.ref s4.heap.objs.size]) ht.isList.typeIs slot_list_getitem.lookup ?_ (by with_unfolding_all rfl);refine wpAny_getItem_list_slice ht.isList (Heap.IsSliceOf.new ..) pl pu ps hk ?_ (by rw[size_toArray] <;> lia)
 have e:slicePick dl.toArray l u k=((sliceRange (sliceBounds l u k xs.length).1 (sliceBounds l u k xs.length).2.1 (sliceBounds l u k xs.length).2.2).filterMap fun i=>dl[i]?).toArray:=by unfold slicePick;rw[size_toArray,<- ld];simp
 rw[e];refine⟨.ref _,_,I5.laid (t':=s4.toks) (o:=.lst (pickV xs l u k)) (fun b ob q=>Heap.get?_push_of_some _ q) (Nat.le_refl _) ?_,rfl,q _ (I5.hok.fresh (Nat.le_refl _))⟩;exact⟨hz,_,0,r.pick _,Heap.get?_push_size _ rfl⟩
theorem A5 {K:W.Frag}{e:Expr}{lo hi:Option Expr}{st:Expr}{te:TE}{tl th ts:TO}{p2 pos:Pos}(h:X.K=K)(he:PE X e te)(hl:PO X lo tl)(hu:PO X hi th)(hs:PO X (some st) ts):PE X (.Subscript e (.Slice lo hi (some st) p2) pos) (tSl3 K te tl th ts):=by subst h;exact A4 he hl hu hs
end
theorem A6 {K:W.Frag}{te:TE}{tl th ts:TO}{σ:St}{H:Hp}{Q:VK}:tSl3 K te tl th ts σ H Q↔te σ H fun x H1=>tl σ H1 fun l H2=>th σ H2 fun u H3=>ts σ H3 fun k H4=>
 ∃a xs,x=.ref a∧SqL K H4 a xs∧k≠some 0∧(pickV xs l u k).length≤sizeLine∧∀p,H4 p=none->Q (.ref p) (upd H4 p (.lst (pickV xs l u k))):=Iff.rfl
end L2
namespace Wm
open PySem L2
noncomputable abbrev Way:=Bool×List Stp×Bool
noncomputable def Ad.w (x:Ad):Way:=(x.rooted,x.steps,x.ends)
noncomputable def Ad.withWay (x:Ad)(w:Way):Ad:={ x with rooted:=w.1,steps:=w.2.1,ends:=w.2.2}
noncomputable def goneV (w:Way):Way:=goneW w.1 w.2.1 w.2.2
noncomputable def Ad.gone (x:Ad):Ad:=x.withWay (goneV x.w)
noncomputable def wayOf (w:Way):PyData:=.tuple [.bool w.1,.tuple (w.2.1.map st),.bool w.2.2]
theorem A7 {l:Addr}{H:Hp}{Q:VK}:rReverse (.ref l) [] H Q↔∃xs,H l=some (.lst xs)∧Q .non (upd H l (.lst xs.reverse)):=
 ⟨fun⟨_,xs,e,_,h,q⟩=>by cases e;exact⟨xs,h,q⟩,fun⟨xs,h,q⟩=>⟨l,xs,rfl,rfl,h,q⟩⟩
noncomputable abbrev sV (l:List Nat):V:=.str ⟨l.toArray⟩
theorem A8 {α:Type}{l:List α}{i:Nat}{a:α}(h:l[i]?=some a):l.drop i=a::l.drop (i+1):=by obtain⟨hi,e⟩:=List.getElem?_eq_some_iff.mp h;rw[<- e];exact List.drop_eq_getElem_cons hi
theorem A9 {H:Hp}:∀(ss:List (List Nat)),IsAll H (ss.map st) (ss.map sV)
 |[]=>.nil
 |s::ss=>.cons (.str _) (A9 ss)
theorem jF {H:Hp}:∀(ss:List (List Nat)),IsTAll H (ss.map st) (ss.map sV)
 |[]=>.nil
 |s::ss=>.cons (.str _) (jF ss)
theorem Aa (ds:List PyData):PyData.eqv (.list ds) (.list [])=ds.isEmpty:=by cases ds <;> simp[PyData.eqv,PyData.eqvAll]
theorem nX {α:Type}{l:List α}{s:α}(g:α->V)(h:l.getLast?=some s):atI (l.map g) (-1)=some (g s):=by
 obtain⟨pre,rfl⟩:=List.getLast?_eq_some_iff.mp h;have e:ixN ((pre++[s]).map g).length (-1)=some pre.length:=by unfold ixN;simp;try lia
 unfold atI;rw[e];simp
end Wm
namespace L2
open PySem
theorem nY {X:Cx}{K:W.Frag}(h:X.K=K):OpR X (compareOp .In) (rIn K false):=by subst h;exact vX
theorem Ac {l:Addr}{H:Hp}{Q:VK}:rPop (.ref l) [] H Q↔∃xs y,H l=some (.lst xs)∧xs[xs.length - 1]?=some y∧Q y (upd H l (.lst xs.dropLast)):=
 ⟨fun⟨_,xs,y,h1,_,h3,h4,h5⟩=>by cases h1;exact⟨xs,y,h3,h4,h5⟩,fun⟨xs,y,h3,h4,h5⟩=>⟨_,xs,y,rfl,rfl,h3,h4,h5⟩⟩
theorem Ae {D:Ends}{σ:St}{H:Hp}:(tNever D σ H)=(False):=rfl
end L2
namespace Wm
open PySem L2
structure Ad.Tiny (x:Ad):Prop where
 stp:∀s∈x.steps,s.length≤9
 que:∀ps,x.quest=some ps->ps.length≤3∧∀p∈ps,p.1.length≤5∧∀v,p.2=some v->v.length≤6
 mar:∀l,x.mark=some l->l.length≤7
 hou:∀l,x.house=some l->l.length≤13
end Wm
namespace Wm
end Wm
namespace Wm
open PySem L2
noncomputable def cutA {α:Type}(xs:List α)(lo hi:Option Int):List α:=(xs.drop (HT.sIx xs.length 0 lo)).take (HT.sIx xs.length xs.length hi - HT.sIx xs.length 0 lo)
theorem Af {α:Type}(xs:List α){n:Nat}{i:Int}(h:HT.sIx xs.length xs.length (some i)=n):cutA xs none (some i)=xs.take n:=by unfold cutA;rw[h,show HT.sIx xs.length 0 none=0 from rfl,drop_zero,Nat.sub_zero]
theorem Ag {α:Type}(xs:List α):cutA xs none (some (-1))=xs.dropLast:=by rw[Af (n:=xs.length - 1),List.dropLast_eq_take];show (if (-1:Int) < 0 then ((-1:Int)+(xs.length:Int)).toNat else min (-1:Int).toNat xs.length)=_;rw[if_pos (by decide)];lia
end Wm
namespace L2
open PySem
end L2
namespace Wm
open PySem L2
section
variable {H:Hp}
theorem wayT' {r e:Bool}{ss:List (List Nat)}{p q:Addr}(hp:H p=some (.tup [.bl r,.ref q,.bl e]))(hq:H q=some (.tup (ss.map fun l=>V.str ⟨l.toArray⟩))):IsT H (.tuple [.bool r,.tuple (ss.map st),.bool e]) (.ref p):=
 .tup hp (.cons (.bl _) (.cons (.tup hq (jF _)) (.cons (.bl _) .nil)))
theorem nZ {x:Ad}{v:V}(h:IsT H x.data v):∃p w q,v=.ref p∧H p=some (.tup [.str ⟨x.scheme.toArray⟩,otV x.house,itV x.door,w,q,otV x.mark])∧IsT H x.way w∧IsT H (qD x.quest) q:=by obtain⟨p,x0,x1,x2,x3,x4,x5,rfl,hp,i0,i1,i2,i3,i4,i5⟩:=isT6 (show IsT H (.tuple [st x.scheme,oD x.house,iD x.door,x.way,qD x.quest,oD x.mark]) v from h);cases nL i0;cases nM i1;cases zr i2;cases nM i5;exact⟨p,x3,x4,rfl,hp,i3,i4⟩
theorem adT {x:Ad}{p:Addr}{w q:V}(hp:H p=some (.tup [.str ⟨x.scheme.toArray⟩,otV x.house,itV x.door,w,q,otV x.mark]))(hw:IsT H x.way w)(hq:IsT H (qD x.quest) q):IsT H x.data (.ref p):=
 .tup hp (.cons (.str _) (.cons (bY _) (.cons (jA _) (.cons hw (.cons hq (.cons (bY _) .nil))))))
end
theorem Ad.Wf.local {x:Ad}(h:x.Wf):({x with scheme:=[],house:=none,door:=none}:Ad).Wf:=
 ⟨⟨Nat.zero_le _,(fun c hc=>by cases hc),(fun c hc=>by cases hc)⟩,(fun l e=>by cases e),(fun l e=>by cases e),h.stp,(fun z=>z.elim (fun y=>absurd rfl y) (fun y=>absurd rfl y)),h.end_,h.que,h.mar⟩
noncomputable def Goods (n:Nat)(H:Hp)(vs:List V):Prop:=∀v∈vs,∃x:Ad,x.Wf∧x.steps.length≤n∧IsT H x.data v
theorem Goods.cons {n:Nat}{H:Hp}{v:V}{vs:List V}{x:Ad}(h1:x.Wf)(h2:x.steps.length≤n)(h3:IsT H x.data v)(h:Goods n H vs):Goods n H (v::vs):=fun u hu=>by
 rcases mem_cons.mp hu with rfl|hu
 ·exact⟨x,h1,h2,h3⟩
 ·exact h u hu
end Wm
namespace L2
open PySem PySem.Spec PyProof.Rows
theorem Ah {b c:Bool}{H:Hp}{Q:VK}:(rIsB true (.bl b) (.bl c) H Q)=(Q (.bl (!decide (b=c))) H):=rfl
end L2
namespace Wm
open PySem L2
structure GoodAd (n:Nat)(x:Ad):Prop where
 wf:x.Wf
 ti:x.Tiny
 sc:x.scheme≠[]
 ln:x.steps.length≤n
end Wm
namespace L2
open PySem PySem.Spec PyProof.Rows
section
variable {prog:Program}{w:World}{A:Around}{E:Value->Shared->Prop}{s:Shared}
end
noncomputable def Itv (K:W.Frag)(a:Addr)(n:Nat):It:=
 ⟨fun i H=>∃xs x,SqT K H a xs∧xs.length=n∧i < n∧xs[n - 1 - i]?=some x,fun i H x H'=>H'=H∧∀xs,SqT K H a xs->xs.length=n->xs[n - 1 - i]?=some x,fun i _=>n≤i⟩
section
variable {X:Cx}{tg:Expr}{K:W.Frag}
noncomputable def iRev (K:W.Frag)(ta:TA):TI:=fun σ H R=>ta σ H fun vs H1=>∃a xs,vs=[.ref a]∧SqT K H1 a xs∧R (Itv K a xs.length) H1
variable {σ:St}{H:Hp}{D:Ends}{g:TG}{tb:TS}{aa:TA}
theorem Ai:(tFor (iRev K aa) g tb D σ H)=(aa σ H fun vs H1=>∃a xs,vs=[.ref a]∧SqT K H1 a xs∧LoopI (Itv K a xs.length) g tb D σ H1):=rfl
end
theorem ng:fillsNumberSlot (.type "tuple") "mul"=pure false:=PySem.fillsNumberSlot_seq (id := "tuple.__mul__") (r:=some (.builtin "tuple.__rmul__")) F.slot_tuple_mul.lookup (by decide +kernel) F.slot_tuple_rmul.lookup (by decide +kernel)
theorem nh:seqRepeat? (.type "tuple")=pure (some (.builtin "tuple.__mul__")):=by unfold seqRepeat?;rw[PySem.seqSlot_of (T := "tuple") (name := "__mul__") (id := "tuple.__mul__") F.slot_tuple_mul.lookup (by decide +kernel),PySem.seqSlot_of (T := "tuple") (name := "__rmul__") (id := "tuple.__rmul__") F.slot_tuple_rmul.lookup (by decide +kernel)];rfl
theorem ni (a:Int)(t:Tok)(l:Addr)(items:Array Value)(n:Nat)(dd:Option Addr)(sl:Array (Option Value)) :
  Meets (Builtin.«int.__rmul__» ⟨[.int a t,.ref l],[]⟩) (fun _ R s=>s.heap.get? l=some {cls:=.type "tuple",dict:=dd,data:=.seq items n,slots:=sl}∧R (.ok (.ret Value.notImplemented)) s):=
 .of_wp fun prog w A R s h=>by
  obtain⟨hp,g,d,tk,os⟩:=s;obtain⟨hl,h⟩:=h
  wp_walk;exact⟨_,rfl,h⟩
theorem Aj (l:Addr)(items:Array Value)(n:Nat)(dd:Option Addr)(sl:Array (Option Value))(x:Int)(u:Tok)(h0:items.isEmpty=false)(h1:¬ (decide (x < -(2 ^ 63)) || decide (x ≥ 2 ^ 63))=true)(h2:2≤x)(h3:¬ ((items.size:Int) * x > (2 ^ 63 - 1) / 8))(h4:(items.size:Int) * x≤sizeLine) :
  Meets (Builtin.«tuple.__mul__» ⟨[.ref l,.int x u],[]⟩) (fun _ R s=>s.heap.get? l=some {cls:=.type "tuple",dict:=dd,data:=.seq items n,slots:=sl} ∧
   R (.ok (.ret (Value.ref s.heap.objs.size))) {s with heap:=s.heap.push {cls:=Value.type "tuple",data:=Data.seq (List.foldl (fun x1 x2=>x1++x2) #[] (List.replicate x.toNat items))},toks:=s.toks}):=
 .of_wp fun prog w A R s h=>by
  obtain⟨hp,g,d,tk,os⟩:=s;obtain⟨hl,h⟩:=h;unfold Builtin.«tuple.__mul__»
  wp_walk
  have hx1:¬ (items.isEmpty || x == 1)=true:=by rw[h0,Bool.false_or];intro z;have:=eq_of_beq z;lia
  have hx2:¬ (decide (x≤0) || items.isEmpty)=true:=by rw[h0,Bool.or_false,decide_eq_true_eq];lia
  have hx3:¬ Builtin.Tuple.tupleTooMany ((items.size:Int) * x)=true:=by unfold Builtin.Tuple.tupleTooMany;rw[decide_eq_true_eq];lia
  rw[if_neg h1]
  wp_walk
  rw[if_neg hx1];try dsimp only
  rw[if_neg hx2];try dsimp only
  rw[if_neg h3];try dsimp only
  rw[if_neg hx3];refine wpAny_bind (m:=Builtin.Tuple.tupleExact _) (wpAny_newObj_type (wpAny_pure ⟨_,rfl,h⟩) ?_);show (List.foldl (fun x1 x2=>x1++x2) #[] (List.replicate x.toNat items)).size≤sizeLine;have e:List.foldl (fun x1 x2=>x1++x2) #[] (List.replicate x.toNat items.toList.toArray)=(List.replicate x.toNat items.toList).flatten.toArray:=by have:=io items.toList x.toNat [];rw[nil_append] at this;exact this
  rw[show items.toList.toArray=items by simp] at e;rw[e,size_toArray,mG,Array.length_toList];have:(items.size:Int) * x=((x.toNat * items.size:Nat):Int):=by rw[Int.natCast_mul,Int.toNat_of_nonneg (by lia),Int.mul_comm]
  lia
section
variable {X:Cx}
noncomputable def rRepT:R2:=fun x y H Q=>∃a k xs,x=.ref a∧y=.int k∧H a=some (.tup xs)∧2≤k∧k < 1000∧xs.length * k.toNat≤sizeLine∧∀p H',Same H H'->H' p=some (.tup (List.replicate k.toNat xs).flatten)->Q (.ref p) H'
theorem nj (l:Addr)(items:Array Value)(n:Nat)(dd:Option Addr)(sl:Array (Option Value))(x:Int)(u:Tok)(h0:items.isEmpty=true)(h1:¬ (decide (x < -(2 ^ 63)) || decide (x ≥ 2 ^ 63))=true) :
  Meets (Builtin.«tuple.__mul__» ⟨[.ref l,.int x u],[]⟩) (fun _ R s=>s.heap.get? l=some {cls:=.type "tuple",dict:=dd,data:=.seq items n,slots:=sl}∧R (.ok (.ret (Value.ref l))) s):=
 .of_wp fun prog w A R s h=>by
  obtain⟨hp,g,d,tk,os⟩:=s;obtain⟨hl,h⟩:=h;unfold Builtin.«tuple.__mul__»;have hx1:(items.isEmpty || x == 1)=true:=by rw[h0,Bool.true_or]
  wp_walk
  rw[if_neg h1]
  wp_walk
  exact⟨_,rfl,h⟩
theorem Ak:OpR X (binaryOp .Mult) rRepT:=by
 intro mt s σ H x y v u Q I rx ry h;obtain⟨a,k,xs,rfl,rfl,hH,h1,h2,hz,q⟩:=h;cases rx;obtain⟨t,rfl⟩:=ry;obtain⟨ad,r,p,hl⟩:=I.tuple (SqT.of hH);obtain⟨⟨cls,dd,Fn,sl⟩,ho,hc,n,hd⟩:=id p;simp only at hc hd;subst hc hd;have Cl:=r.length;have hb:¬ (decide (k < -(2 ^ 63)) || decide (k ≥ 2 ^ 63))=true:=by rw[Bool.or_eq_true,decide_eq_true_eq,decide_eq_true_eq];lia
 have dl:((ad.toArray.size:Nat):Int) * k≤sizeLine:=by
  rw[size_toArray,<- Cl];have:(xs.length:Int) * k=((xs.length * k.toNat:Nat):Int):=by rw[Int.natCast_mul,Int.toNat_of_nonneg (by lia)]
  lia
 refine wpAny_binaryOp_repeat_ref (T := "tuple") (U := "int") (by decide) p.typeIs (fun s'=>typeIs_int s' k t) ng F.fills_int_mul F.slot_int_rmul nh F.slot_int_index.lookup
  (call_meets F.slot_int_rmul (typeIs_int s k t) F.entry_int_rmul (F.args_int_rmul_2 _ _) (ni k t a ad.toArray n dd sl) ⟨ho,rfl,p.typeIs,?_⟩)
 by_cases he:ad=[]
 ·subst he;have BT:xs=[]:=r.nil_iff.mp rfl;subst BT;exact call_meets F.slot_tuple_mul p.typeIs F.entry_tuple_mul (F.args_tuple_mul_2 _ _) (nj a _ n dd sl k t rfl hb) ⟨ho,.ref a,H,I,rfl,q a H (Same.refl _) (by rw[hH];congr 2;exact (List.flatten_eq_nil_iff.mpr fun l hl=>(List.mem_replicate.mp hl).2).symm)⟩
 ·have h0:ad.toArray.isEmpty=false:=by simpa using he
  have ld:¬ (((ad.toArray.size:Nat):Int) * k > (2 ^ 63 - 1) / 8):=by
   have:(sizeLine:Int)≤(2 ^ 63 - 1) / 8:=by decide
   lia
  refine call_meets F.slot_tuple_mul p.typeIs F.entry_tuple_mul (F.args_tuple_mul_2 _ _) (Aj a _ n dd sl k t h0 hb h1 ld dl) ⟨ho,?_⟩;have e:List.foldl (fun x1 x2=>x1++x2) #[] (List.replicate k.toNat ad.toArray)=(List.replicate k.toNat ad).flatten.toArray:=by have:=io ad k.toNat [];rw[nil_append] at this;exact this
  rw[e];have hf:H s.heap.objs.size=none:=I.hok.fresh (Nat.le_refl _);refine⟨.ref s.heap.objs.size,_,I.laid (t':=s.toks) (o:=.tup (List.replicate k.toNat xs).flatten) (fun b ob q=>Heap.get?_push_of_some _ q) (Nat.le_refl _) ?_,rfl,q _ _ (av hf) aL⟩;exact⟨by rw[mG,Nat.mul_comm];exact hz,_,r.rep k.toNat,IsTup.new _ _⟩
theorem Al {a:Addr}{k:Int}{H:Hp}{Q:VK}:rRepT (.ref a) (.int k) H Q↔∃xs,H a=some (.tup xs)∧2≤k∧k < 1000∧xs.length * k.toNat≤sizeLine∧∀p H',Same H H'->H' p=some (.tup (List.replicate k.toNat xs).flatten)->Q (.ref p) H':=by
 constructor
 ·rintro⟨a',k',xs,h1,h2,h⟩;cases h1;cases h2;exact⟨xs,h⟩
 ·rintro⟨xs,h⟩;exact⟨a,k,xs,rfl,rfl,h⟩
noncomputable def rRepS:R2:=fun x y H Q=>∃l k xs,x=.ref l∧y=.int k∧H l=some (.lst xs)∧0≤k∧k < 1000000∧xs.length * k.toNat≤sizeLine∧∀p H',H p=none->Same H H'->H' p=some (.lst (List.replicate k.toNat xs).flatten)->Q (.ref p) H'
theorem Am {a:Addr}{k:Int}{H:Hp}{Q:VK}:rRepS (.ref a) (.int k) H Q↔∃xs,H a=some (.lst xs)∧0≤k∧k < 1000000∧xs.length * k.toNat≤sizeLine∧∀p H',H p=none->Same H H'->H' p=some (.lst (List.replicate k.toNat xs).flatten)->Q (.ref p) H':=by
 constructor
 ·rintro⟨a',k',xs,h1,h2,h⟩;cases h1;cases h2;exact⟨xs,h⟩
 ·rintro⟨xs,h⟩;exact⟨a,k,xs,rfl,rfl,h⟩
end
theorem An (l:Addr)(items:Array Value)(n:Nat)(dd:Option Addr)(sl:Array (Option Value))(u:Tok) :
  Meets (Builtin.«tuple.__mul__» ⟨[.ref l,.int 1 u],[]⟩) (fun _ R s=>s.heap.get? l=some {cls:=.type "tuple",dict:=dd,data:=.seq items n,slots:=sl}∧R (.ok (.ret (Value.ref l))) s):=
 .of_wp fun prog w A R s h=>by
  obtain⟨hp,g,d,tk,os⟩:=s;obtain⟨hl,h⟩:=h;unfold Builtin.«tuple.__mul__»;have hx1:(items.isEmpty || ((1:Int) == 1))=true:=by simp
  have h1:¬ (decide ((1:Int) < -(2 ^ 63)) || decide ((1:Int) ≥ 2 ^ 63))=true:=by decide
  wp_walk
  first|rw[if_neg h1]|skip
  wp_walk
  first|rw[if_pos hx1]|skip
  wp_walk
  exact⟨_,rfl,h⟩
theorem Ao (l:Addr)(items:Array Value)(n:Nat)(dd:Option Addr)(sl:Array (Option Value))(u:Tok)(h0:items.isEmpty=false) :
  Meets (Builtin.«tuple.__mul__» ⟨[.ref l,.int 0 u],[]⟩) (fun _ R s=>s.heap.get? l=some {cls:=.type "tuple",dict:=dd,data:=.seq items n,slots:=sl} ∧
   R (.ok (.ret (Value.ref s.heap.objs.size))) {s with heap:=s.heap.push {cls:=Value.type "tuple",data:=Data.seq #[]},toks:=s.toks}):=
 .of_wp fun prog w A R s h=>by
  obtain⟨hp,g,d,tk,os⟩:=s;obtain⟨hl,h⟩:=h;unfold Builtin.«tuple.__mul__»;have h1:¬ (decide ((0:Int) < -(2 ^ 63)) || decide ((0:Int) ≥ 2 ^ 63))=true:=by decide
  have hx1:¬ (items.isEmpty || ((0:Int) == 1))=true:=by rw[h0];decide
  have hx2:(decide ((0:Int)≤0) || items.isEmpty)=true:=by simp
  wp_walk
  first|rw[if_neg h1]|skip
  wp_walk
  first|rw[if_neg hx1]|skip
  try dsimp only
  first|rw[if_pos hx2]|skip
  exact⟨_,rfl,h⟩
section
variable {X:Cx}
noncomputable def rRepN:R2:=fun x y H Q=>∃a k xs,x=.ref a∧y=.int k∧H a=some (.tup xs)∧0≤k∧k < 1000∧xs.length * k.toNat≤sizeLine∧∀p H',Same H H'->H' p=some (.tup (List.replicate k.toNat xs).flatten)->Q (.ref p) H'
theorem Ap:OpR X (binaryOp .Mult) rRepN:=by
 intro ad s σ H x y v u Q I rx ry h;obtain⟨a,k,xs,rfl,rfl,hH,h1,h2,hz,q⟩:=h;by_cases hk:2≤k
 ·exact Ak ad s σ H _ _ v u Q I rx ry ⟨a,k,xs,rfl,rfl,hH,hk,h2,hz,q⟩
 cases rx;obtain⟨t,rfl⟩:=ry;obtain⟨dl,r,p,hl⟩:=I.tuple (SqT.of hH);obtain⟨⟨cls,dd,BT,sl⟩,ho,hc,n,hd⟩:=id p;simp only at hc hd;subst hc hd;refine wpAny_binaryOp_repeat_ref (T := "tuple") (U := "int") (by decide) p.typeIs (fun s'=>typeIs_int s' k t) ng F.fills_int_mul F.slot_int_rmul nh F.slot_int_index.lookup
  (call_meets F.slot_int_rmul (typeIs_int s k t) F.entry_int_rmul (F.args_int_rmul_2 _ _) (ni k t a dl.toArray n dd sl) ⟨ho,rfl,p.typeIs,?_⟩)
 have mt:k=0∨k=1:=by lia
 rcases mt with rfl|rfl
 ·by_cases he:dl=[]
  ·subst he;have ld:xs=[]:=r.nil_iff.mp rfl;subst ld;exact call_meets F.slot_tuple_mul p.typeIs F.entry_tuple_mul (F.args_tuple_mul_2 _ _) (nj a _ n dd sl 0 t rfl (by decide)) ⟨ho,.ref a,H,I,rfl,q a H (Same.refl _) hH⟩
  ·have h0:dl.toArray.isEmpty=false:=by simpa using he
   refine call_meets F.slot_tuple_mul p.typeIs F.entry_tuple_mul (F.args_tuple_mul_2 _ _) (Ao a _ n dd sl t h0) ⟨ho,?_⟩;have hf:H s.heap.objs.size=none:=I.hok.fresh (Nat.le_refl _);refine⟨.ref s.heap.objs.size,_,I.laid (t':=s.toks) (o:=.tup []) (fun b ob q=>Heap.get?_push_of_some _ q) (Nat.le_refl _) ?_,rfl,q _ _ (av hf) aL⟩;exact⟨Nat.zero_le _,[],.nil,IsTup.new _ _⟩
 ·exact call_meets F.slot_tuple_mul p.typeIs F.entry_tuple_mul (F.args_tuple_mul_2 _ _) (An a _ n dd sl t) ⟨ho,.ref a,H,I,rfl,q a H (Same.refl _) (by rw[hH];simp)⟩
theorem Aq {a:Addr}{k:Int}{H:Hp}{Q:VK}:rRepN (.ref a) (.int k) H Q↔∃xs,H a=some (.tup xs)∧0≤k∧k < 1000∧xs.length * k.toNat≤sizeLine∧∀p H',Same H H'->H' p=some (.tup (List.replicate k.toNat xs).flatten)->Q (.ref p) H':=by
 constructor
 ·rintro⟨a',k',xs,h1,h2,h⟩;cases h1;cases h2;exact⟨xs,h⟩
 ·rintro⟨xs,h⟩;exact⟨a,k,xs,rfl,rfl,h⟩
end
section
variable {X:Cx}
noncomputable def intsV (lo:Int)(n:Nat):List V:=(List.range n).map fun k=>.int (lo+(k:Nat))
noncomputable def tLR (ta:TA):TE:=fun σ H Q=>ta σ H fun vs H1=>∃j:Int,vs=[.int j]∧0≤j∧j≤1000000∧∀p,H1 p=none->Q (.ref p) (upd H1 p (.lst (intsV 0 j.toNat)))
end
theorem Ar {ta:TA}{σ:St}{H:Hp}{Q:VK}:(tLR ta σ H Q)=(ta σ H fun vs H1=>∃j:Int,vs=[.int j]∧0≤j∧j≤1000000∧∀p,H1 p=none->Q (.ref p) (upd H1 p (.lst (intsV 0 j.toNat)))):=rfl
end L2
namespace L2
open PySem
section
variable {p:Addr}{fv:St}{tt:TT}{te:TE}{Q:VK}{H1:Hp}{K:W.Frag}
end
end L2
namespace L2
open PySem PySem.Spec PyProof.Rows
section
variable {X:Cx}{pins:List (Addr×Obj)}{σ:St}{H1:Hp}{s3:Shared}{x x2:Str}{fx:List Str}{fr:List Nat}{scope:Scope}{cl:List (Str×Addr)}{fp:List Addr}
theorem As (I:Inv X pins σ H1 s3)(hkind:scope.kind=.function)(hcl:∀y c,cl.lookup y=some c->X.env.cells.lookup y=some c)
  (F:Frees X (relabel scope X.env) cl fx fr) (hfx:((relabel scope X.env).names.all fun p=>if (p.2 == .cell || p.2 == .free) then fx.contains p.1 else true)=true)
  (ffp:∀b∈fp,FpOk X pins H1 b) (flt:∀b∈fp,b < s3.heap.objs.size):(compCx X (x::x2::fx) scope cl s3 H1 fp).Ok where
 mod:=I.ok.mod
 kind:=hkind
 glob:=I.ok.glob
 blt:=I.ok.blt
 above:=Nat.le_refl _
 inj:=fun y z c h1 h2=>I.ok.inj y z c (hcl y c h1) (hcl z c h2)
 has:=fun y h=>by
  have h:(relabel scope X.env).names.lookup y=some .cell∨(relabel scope X.env).names.lookup y=some .free:=h;have key:y∈fx:=by
   rcases h with h|h
   ·have q:=all_eq_true.mp hfx _ (PySem.mem_of_lookup h);simpa using q
   ·have q:=all_eq_true.mp hfx _ (PySem.mem_of_lookup h);simpa using q
  obtain⟨k1,k2⟩:=F.mem y key;obtain⟨c,e⟩:=I.ok.has y (.inl k1);exact⟨c,k2.trans e⟩
 cab:=fun y c h=>by cases (show false=true from h)
 hd:=I.ok.hd
 frames:=I.ok.frames
 stk:=.inl rfl
 exf:=fun b hb=>⟨Nat.ne_of_lt (flt b hb),fun y c e=>(ffp b hb).2.2.2.2.1 y c (hcl y c e)⟩
 bs:=I.bs
 bsz:=Nat.le_trans I.ok.bsz I.sz
 noex:=fun b o e hb=>by
  rcases (ffp b hb).2.2.2.1 with z|z
  ·exact I.ok.noex b o e z
  ·exact absurd (Nat.lt_of_lt_of_le (Heap.lt_size (I.ok.bs b o e).1) z) (Nat.lt_irrefl _)
 exfs:=fun b hb z=>by
  rcases mem_cons.mp (I.stkSub b z) with q|q
  ·exact (ffp b hb).2.1 q
  ·exact (ffp b hb).2.2.1 q
 funs:=I.stack
 frf:=I.stkFree
theorem At (I:Inv X pins σ H1 s3)(hkind:scope.kind=.function)(hcl:∀y c,cl.lookup y=some c->X.env.cells.lookup y=some c)
  (F:Frees X (relabel scope X.env) cl fx fr) (hfx:((relabel scope X.env).names.all fun p=>if (p.2 == .cell || p.2 == .free) then fx.contains p.1 else true)=true)
  (ffp:∀b∈fp,FpOk X pins H1 b) (flt:∀b∈fp,b < s3.heap.objs.size) {h1:Heap}{t:Nat}{m:Str->Option Value} (hn:h1.Ns s3.heap.objs.size m)
  (keep:∀b u,s3.heap.get? b=some u->h1.get? b=some u):Inv (compCx X (x::x2::fx) scope cl s3 H1 fp) [] (none::none::frV σ fr) H1 {s3 with heap:=h1,toks:=t}:=by
 refine⟨As I hkind hcl F hfx ffp flt,rfl,I.bare,Un.kept keep,⟨m,hn,fun i y v e1 e2 e3=>?_⟩,fun y c e=>?_,I.hok.fresh (Nat.le_refl _),fun y c e=>I.freeC y c (hcl y c e),fun p hp=>absurd (show p∈([]:List (Addr×Obj)) from hp) (by simp),I.hok.kept keep,?_⟩
 ·cases i with
  |zero=>simp at e2
  |succ j=>
   cases j with
   |zero=>simp at e2
   |succ j=>
    obtain⟨i0,k1,k2,k3,k4,k5⟩:=F.at (σ:=σ) j y v (by simpa [compCx] using e1) (by simpa using e2);obtain⟨m0,dl,ad⟩:=I.loc;obtain⟨u,r,l⟩:=ad i0 y v k1 k2 (.inr (.inl k3));refine⟨u,r,?_⟩;rcases l with⟨z,_⟩|⟨_,c,e,o,ho,hd⟩
    ·rw[k3] at z;cases z
    ·exact .inr ⟨.inl k4,c,k5.trans e,o,keep c o ho,hd⟩
 ·obtain⟨v,o,ho,hd⟩:=I.cell y c (hcl y c e);exact⟨v,o,keep c o ho,hd⟩
 ·show (none::none::frV σ fr).length=(x::x2::fx).length;simp[frV,F.len]
end
noncomputable def CompI2 (K:W.Frag)(J:It)(p:Addr)(fv:St)(tt:TT)(te:TE)(Q:VK)(H1:Hp):Prop:=
 ∃W:Nat->Nat->List V->Hp->Prop,(∃m,W 0 m [] (upd H1 p (.lst [])))∧∀i m ys H2,W i m ys H2->H2 p=some (.lst ys) ∧
  ((J.stop i H2∧Q (.ref p) H2)∨(J.go i H2∧ys.length < sizeLine∧∀z H3,J.yld i H2 z H3->∃a x y,z=.ref a∧SqT K H3 a [x,y]∧tt (some x::some y::fv) H3 fun b H4=>
   if b=true then te (some x::some y::fv) H4 fun y H5=>H5 p=some (.lst ys)∧∃m',m' < m∧W (i+1) m' (ys++[y]) (upd H5 p (.lst (ys++[y])))
   else ∃m',m' < m∧W (i+1) m' ys H4))
noncomputable def tComp2 (K:W.Frag)(wi:TI)(fr:List Nat)(tt:TT)(te:TE):TE:=fun σ H Q=>wi σ H fun J H1=>∀p,H1 p=none->CompI2 K J p (frV σ fr) tt te Q H1
section
variable {X:Cx}{elt iter:Expr}{x x2:Str}{px px2 ptx pos:Pos}{kx:Nat}{ifs:List Expr}{scope:Scope}{cl:List (Str×Addr)}{fx:List Str}{fr:List Nat}{wi:TI}{tt:TT}{te:TE}
theorem nk {pins:List (Addr×Obj)}{σ:St}{H3:Hp}{s3:Shared}{it p:Addr}{fp:List Addr}{tn:Nat->Heap->Prop}{J:It}{Q:VK}{W:Nat->Nat->List V->Hp->Prop}{m0 t:Nat}{h₁:Heap}{m:Str->Option Value}{RR:Result->Shared->Prop}
  (hc:X.calm=true) (hkind:scope.kind=.function) (hx:scope.names.lookup x=some .local) (hx2:scope.names.lookup x2=some .local) (hnd:(x::x2::fx).Nodup)
  (hcl:∀y c,cl.lookup y=some c->X.env.cells.lookup y=some c) (F:Frees X (relabel scope X.env) cl fx fr)
  (hfx:((relabel scope X.env).names.all fun p=>if (p.2 == .cell || p.2 == .free) then fx.contains p.1 else true)=true)
  (ht:∀s H fp,PF (compCx X (x::x2::fx) scope cl s H fp) ifs tt) (he:∀s H fp,PE (compCx X (x::x2::fx) scope cl s H fp) elt te)
  (I3:Inv X pins σ H3 s3) (T:Turn X.prog X.w X.K (.Tuple [.Name x px,.Name x2 px2] kx ptx) J fp it tn) (st3:tn 0 s3.heap) (ffp:∀b∈fp,FpOk X pins H3 b) (flt3:∀b∈fp,b < s3.heap.objs.size)
  (w0:W 0 m0 [] H3) (turn:∀i m ys H2,W i m ys H2->H2 p=some (.lst ys) ∧
   ((J.stop i H2∧Q (.ref p) H2)∨(J.go i H2∧ys.length < sizeLine∧∀z H3,J.yld i H2 z H3->∃a x y,z=.ref a∧SqT X.K H3 a [x,y]∧tt (some x::some y::frV σ fr) H3 fun b H4=>
    if b=true then te (some x::some y::frV σ fr) H4 fun y H5=>H5 p=some (.lst ys)∧∃m',m' < m∧W (i+1) m' (ys++[y]) (upd H5 p (.lst (ys++[y])))
    else ∃m',m' < m∧W (i+1) m' ys H4)))
  (hns:h₁.Ns s3.heap.objs.size m) (keep1:∀b u,s3.heap.get? b=some u->h₁.get? b=some u)
  (fin:∀s6 H5 o o2,Inv (compCx X (x::x2::fx) scope cl s3 H3 fp) [] (o::o2::frV σ fr) H5 s6->Q (.ref p) H5->RR (.ok .next) s6) :
  codeAny (model X.prog X.w) X.A (.compStart (.ListComp elt [⟨.Tuple [.Name x px,.Name x2 px2] kx ptx,iter,ifs,0⟩] scope pos) 0 (.ref it) (.ref p) (compEnvC scope cl s3.heap.objs.size X.env))
   RR {s3 with heap:=h₁,toks:=t}:=by
 have I4:=At (x:=x) (x2:=x2) (t:=t) I3 hkind hcl F hfx ffp flt3 hns keep1;have FA:tn 0 h₁:=T.keep _ _ _ st3 fun b hb o e=>keep1 b o e;have FJ:∀b∈fp,H3 b=none:=fun b hb=>(ffp b hb).1;have ld:(compCx X (x::x2::fx) scope cl s3 H3 fp).calm=true:=hc;have dl:∀{H':Hp},(∀b∈fp,H' b=none)->∀b∈fp,FpOk (compCx X (x::x2::fx) scope cl s3 H3 fp) [] H' b:=fun {H'} hn b hb=>by obtain⟨f0,f1,f2,f3,f4,f5⟩:=ffp b hb;exact⟨hn b hb,Nat.ne_of_lt (flt3 b hb),I4.ok.exfs b hb,.inl hb,fun y c e=>f4 y c (hcl y c e),fun q hq=>absurd (show q∈([]:List (Addr×Obj)) from hq) (by simp)⟩
 have FB:(relabel scope X.env).names.lookup x=some .local:=lookup_relabel_local hx;have Cl:(relabel scope X.env).names.lookup x2=some .local:=lookup_relabel_local hx2;have pg:PG (compCx X (x::x2::fx) scope cl s3 H3 fp) (.Tuple [.Name x px,.Name x2 px2] kx ptx) (gTup X.K 2 (gCons (gName 0) (gCons (gName 1) gNil))):=lc ld (bS (fY (i:=0) hnd rfl (.inl FB) (.inr FB)) (bS (fY (i:=1) hnd rfl (.inl Cl) (.inr Cl)) cm));have BT:codeAny (model X.prog X.w) X.A (.compLoop (.ListComp elt [⟨.Tuple [.Name x px,.Name x2 px2] kx ptx,iter,ifs,0⟩] scope pos) 0 (.ref it) (.ref p) (compEnvC scope cl s3.heap.objs.size X.env))
    RR {s3 with heap:=h₁,toks:=t}:=by
  refine mQ (fun n s'=>∃i ys H' o o2,Inv (compCx X (x::x2::fx) scope cl s3 H3 fp) [] (o::o2::frV σ fr) H' s'∧tn i s'.heap∧(∀b∈fp,H' b=none)∧W i n ys H') ?_ m0 ⟨0,[],_,none,none,I4,FA,FJ,w0⟩;rintro n s5 ⟨i,ys,H5,o,o2,I5,Fz,FC,w5⟩;obtain⟨FO,FM⟩:=turn i n ys H5 w5;rcases FM with⟨stop,qn⟩|⟨go,Fy,step⟩
  ·refine thn (T.done (compCx X (x::x2::fx) scope cl s3 H3 fp) rfl rfl rfl ld i [] s5 (o::o2::frV σ fr) H5 _ I5 (dl FC) Fz stop) fun r s6 W'=>?_;obtain⟨hr,I6⟩:=W';subst hr;exact fin s6 H5 o o2 I6 qn
  ·refine thn (T.item (compCx X (x::x2::fx) scope cl s3 H3 fp) rfl rfl rfl ld i [] s5 (o::o2::frV σ fr) H5 _ I5 (dl FC) Fz go) fun r s6 W'=>?_;obtain⟨u,hr,h6⟩:=W';subst hr;refine thn h6 fun _ s7 W'=>?_;obtain⟨y7,H7,I7,r7,FD,Fr,FI⟩:=W';have I7':=I7.pinned (dl FI) (T.obj _ _ Fr);have ad:∀{σ':St}{H':Hp}{s':Shared},Inv (compCx X (x::x2::fx) scope cl s3 H3 fp) ([]++pinsAt fp s7.heap) σ' H' s'->tn (i+1) s'.heap∧∀b∈fp,H' b=none:=fun {σ' H' s'} I'=>by
    refine⟨T.keep _ _ _ Fr fun b hb o e=>(I'.pin (b,o) (mem_append_right _ (mem_append_right _ (cn hb e)))).1,fun b hb=>?_⟩;obtain⟨o,e,d⟩:=T.obj _ _ Fr b hb;exact (I'.pin (b,o) (mem_append_right _ (mem_append_right _ (cn hb e)))).2.1
   obtain⟨a7,z1,z2,e7,q7,mt⟩:=step y7 _ FD;subst e7;refine thn (pg _ s7 _ H7 (.ref a7) u (fun σ' H'=>σ'=some z1::some z2::frV σ fr∧H'=H7) I7' r7 ⟨a7,[z1,z2],rfl,q7,rfl,z1,[z2],rfl,z2,[],rfl,rfl,rfl,rfl⟩) fun _ s8 W'=>?_;obtain⟨σ8,H8,I8,e8,FK⟩:=W';subst e8 FK;refine thn (ht s3 H3 fp _ s8 _ _ _ I8 mt) fun b s9 W'=>?_;obtain⟨H9,I9,q9⟩:=W';cases b with
   |false=>rw[if_neg Bool.false_ne_true] at q9 ⊢;obtain⟨m',hm,w9⟩:=q9;exact⟨m',hm,i+1,ys,H9,some z1,some z2,I9.unpinned,(ad I9).1,(ad I9).2,w9⟩
   |true=>rw[if_pos rfl] at q9 ⊢;refine thn (he s3 H3 fp _ s9 _ H9 _ I9 q9) fun FF FG W'=>?_;obtain⟨Fn,H10,I10,FH,Fx,m',hm,FE⟩:=W';refine thn (bU _ FG _ H10 (.ref p) [Fn] (.ref p) [FF] (fun _ H'=>H'=upd H10 p (.lst (ys++[Fn]))) I10 rfl (.cons FH .nil) ⟨p,ys,Fn,rfl,rfl,Fx,Fy,rfl⟩) fun _ FN W'=>?_;obtain⟨_,H11,I11,_,FL⟩:=W';subst FL;exact⟨m',hm,i+1,ys++[Fn],_,some z1,some z2,I11.unpinned,(ad I11).1,(ad I11).2,FE⟩
 exact codeAny_compStart_list BT (T.self _ 0 _ _ _ FA BT)
theorem Au (hc:X.calm=true)(hclos:closureFor scope X.env=pure cl)(hcell:∀y∈scope.names,y.2≠.cell)(hkind:scope.kind=.function)
  (hnames:∀y∈scope.names,y.2=.local->scope.names.lookup y.1=some .local) (hx:scope.names.lookup x=some .local) (hx2:scope.names.lookup x2=some .local) (hnd:(x::x2::fx).Nodup)
  (hk:(cl.all fun q=>fx.contains q.1)=true) (F:Frees X (relabel scope X.env) cl fx fr)
  (hfx:((relabel scope X.env).names.all fun p=>if (p.2 == .cell || p.2 == .free) then fx.contains p.1 else true)=true)
  (hi:PI X (.Tuple [.Name x px,.Name x2 px2] kx ptx) iter wi) (ht:∀s H fp,PF (compCx X (x::x2::fx) scope cl s H fp) ifs tt) (he:∀s H fp,PE (compCx X (x::x2::fx) scope cl s H fp) elt te)
  (hs:∀x,foldedSetIterable iter X.env x=pure x:=by intro _;rfl) :
  PE X (.ListComp elt [⟨.Tuple [.Name x px,.Name x2 px2] kx ptx,iter,ifs,0⟩] scope pos) (tComp2 X.K wi fr tt te):=by
 intro ad s σ H Q I h;have FB:∀y c,cl.lookup y=some c->X.env.cells.lookup y=some c:=fun y c e=>by have q:=all_eq_true.mp hk _ (PySem.mem_of_lookup e);rw[<- (F.mem y (by simpa using q)).2];exact e
 rw[eval_ListComp];refine wpAny_comprehension_free (use:=none) rfl hs hclos hkind hnames ?_;refine thn (hi ad s σ H _ I h) fun v s1 h1=>thn h1 fun FD s2 h2=>?_;obtain⟨it,fp,tn,J,H2,e,I2,T,Fr,f2,q2⟩:=h2;subst e;have Fz:H2 s2.heap.objs.size=none:=I2.hok.fresh (Nat.le_refl _);obtain⟨W,⟨m0,w0⟩,Fn⟩:=q2 _ Fz;have flt:∀b∈fp,b < s2.heap.objs.size:=fun b hb=>by obtain⟨o,e,_⟩:=T.obj _ _ Fr b hb;exact Heap.lt_size e
 refine wpAny_newObj_type (wpAny_newFunctionEnv hcell (by intro y hy;simp at hy) (fun h₁ ld dl=>?_) hkind);dsimp only at ld dl ⊢;have mt:∀b u,s2.heap.get? b=some u->(s2.heap.push {cls:=.type "list",dict:=none,data:=.seq ([]:List Value).toArray}).get? b=some u:=fun b u e=>Heap.get?_push_of_some _ e;have Cl:(s2.heap.push {cls:=.type "list",dict:=none,data:=.seq ([]:List Value).toArray}).get? s2.heap.objs.size=some {cls:=.type "list",dict:=none,data:=.seq ([]:List Value).toArray}:=Heap.get?_push_size _ rfl;have Fx:(s2.heap.push {cls:=.type "list",dict:=none,data:=.seq ([]:List Value).toArray}).objs.size=s2.heap.objs.size+1:=Heap.size_push _ _;generalize hHH:s2.heap.push {cls:=.type "list",dict:=none,data:=.seq ([]:List Value).toArray}=HH at ld dl mt Cl Fx ⊢;have I3:Inv X ad σ (upd H2 s2.heap.objs.size (.lst [])) {s2 with heap:=HH,toks:=s2.toks}:=
  I2.laid (t':=s2.toks) (o:=.lst []) mt (Nat.le_refl _) ⟨Nat.zero_le _,[],0,.nil,Cl⟩
 have Fy:∀b∈fp,FpOk X ad (upd H2 s2.heap.objs.size (.lst [])) b:=fun b hb=>by obtain⟨f0,FC⟩:=f2 b hb;exact⟨by rw[aN (Nat.ne_of_lt (flt b hb))];exact f0,FC⟩
 have BT:∀b u,HH.get? b=some u->h₁.get? b=some u:=fun b u e=>dl.extBut b u (Nat.ne_of_lt (Heap.lt_size e)) (Heap.get?_push_of_some _ e);exact nk (s3:={ s2 with heap:=HH,toks:=s2.toks}) hc hkind hx hx2 hnd FB F hfx ht he I3 T (T.keep _ _ _ Fr fun b hb o e=>mt b o e) Fy (fun b hb=>by show b < HH.objs.size;rw[Fx];exact Nat.lt_succ_of_lt (flt b hb)) w0 Fn ld BT fun s6 H5 o o2 I6 qn=>by obtain⟨m,FA,_⟩:=id I6.loc;exact⟨m,FA,fun h' sb=>⟨.ref _,H5,fj I3 I6 Fy sb,rfl,qn⟩⟩
theorem nn {K:W.Frag}(h:X.K=K)(hc:X.calm=true)(hclos:closureFor scope X.env=pure cl)(hcell:∀y∈scope.names,y.2≠.cell)(hkind:scope.kind=.function)
  (hnames:∀y∈scope.names,y.2=.local->scope.names.lookup y.1=some .local) (hx:scope.names.lookup x=some .local) (hx2:scope.names.lookup x2=some .local) (hnd:(x::x2::fx).Nodup)
  (hk:(cl.all fun q=>fx.contains q.1)=true) (F:Frees X (relabel scope X.env) cl fx fr)
  (hfx:((relabel scope X.env).names.all fun p=>if (p.2 == .cell || p.2 == .free) then fx.contains p.1 else true)=true)
  (hi:PI X (.Tuple [.Name x px,.Name x2 px2] kx ptx) iter wi) (ht:∀s H fp,PF (compCx X (x::x2::fx) scope cl s H fp) ifs tt) (he:∀s H fp,PE (compCx X (x::x2::fx) scope cl s H fp) elt te)
  (hs:∀x,foldedSetIterable iter X.env x=pure x:=by intro _;rfl) :
  PE X (.ListComp elt [⟨.Tuple [.Name x px,.Name x2 px2] kx ptx,iter,ifs,0⟩] scope pos) (tComp2 K wi fr tt te):=by
 subst h;exact Au hc hclos hcell hkind hnames hx hx2 hnd hk F hfx hi ht he hs
theorem Av {K:W.Frag}{i:Nat}{y:Str}{py spos:Pos}(hN:X.N.Nodup)(hiN:X.N[i]?=some y)(hy:X.env.scope.names.lookup y=some .local)
  (h:X.K=K) (hc:X.calm=true) (hclos:closureFor scope X.env=pure cl) (hcell:∀y∈scope.names,y.2≠.cell) (hkind:scope.kind=.function)
  (hnames:∀y∈scope.names,y.2=.local->scope.names.lookup y.1=some .local) (hx:scope.names.lookup x=some .local) (hx2:scope.names.lookup x2=some .local) (hnd:(x::x2::fx).Nodup)
  (hk:(cl.all fun q=>fx.contains q.1)=true) (F:Frees X (relabel scope X.env) cl fx fr)
  (hfx:((relabel scope X.env).names.all fun p=>if (p.2 == .cell || p.2 == .free) then fx.contains p.1 else true)=true)
  (hi:PI X (.Tuple [.Name x px,.Name x2 px2] kx ptx) iter wi) (ht:∀s H fp,PF (compCx X (x::x2::fx) scope cl s H fp) ifs tt) (he:∀s H fp,PE (compCx X (x::x2::fx) scope cl s H fp) elt te)
  (hs:∀x,foldedSetIterable iter X.env x=pure x:=by intro _;rfl) (hsw:swapsWith (.ListComp elt [⟨.Tuple [.Name x px,.Name x2 px2] kx ptx,iter,ifs,0⟩] scope pos) (some (.Name y py)) spos.line X.env=pure true:=by rfl) :
  PS X (.Assign [.Name y py] (.ListComp elt [⟨.Tuple [.Name x px,.Name x2 px2] kx ptx,iter,ifs,0⟩] scope pos) spos) (tAsg (tComp2 K wi fr tt te) (gName i)):=by
 subst h;intro ad s σ H D I h;have FE:∀y c,cl.lookup y=some c->X.env.cells.lookup y=some c:=fun y c e=>by have q:=all_eq_true.mp hk _ (PySem.mem_of_lookup e);rw[<- (F.mem y (by simpa using q)).2];exact e
 rw[exec_Assign_Name_used _ _ _ _ hsw];refine wpAny_bind (wpAny_standAt (wpAny_bind ?_));show wpAny _ X.A (do let _ <- comprehension (.ListComp elt [⟨.Tuple [.Name x px,.Name x2 px2] kx ptx,iter,ifs,0⟩] scope pos) scope X.env _ (newList []) false (eval iter X.env) (some (assign (.Name y py) X.env))) _ _ s;refine wpAny_bind (wpAny_mono (wpAny_comprehension_free (use:=some (assign (.Name y py) X.env)) (Q:=fun _ s'=>SP X ad D .next s') rfl hs hclos hkind hnames ?_) (fun _ s' hq=>wpAny_pure (wpAny_pure hq)) fun _ _ e=>e);refine thn (hi ad s σ H _ I h) fun v s1 h1=>thn h1 fun FG s2 h2=>?_;obtain⟨it,fp,tn,J,H2,e,I2,T,Fr,f2,q2⟩:=h2;subst e;have FB:H2 s2.heap.objs.size=none:=I2.hok.fresh (Nat.le_refl _);obtain⟨W,⟨m0,w0⟩,Fn⟩:=q2 _ FB;have flt:∀b∈fp,b < s2.heap.objs.size:=fun b hb=>by obtain⟨o,e,_⟩:=T.obj _ _ Fr b hb;exact Heap.lt_size e
 refine wpAny_newObj_type (wpAny_newFunctionEnv hcell (by intro y hy;simp at hy) (fun h₁ ld dl=>?_) hkind);dsimp only at ld dl ⊢;have mt:∀b u,s2.heap.get? b=some u->(s2.heap.push {cls:=.type "list",dict:=none,data:=.seq ([]:List Value).toArray}).get? b=some u:=fun b u e=>Heap.get?_push_of_some _ e;have Cl:(s2.heap.push {cls:=.type "list",dict:=none,data:=.seq ([]:List Value).toArray}).get? s2.heap.objs.size=some {cls:=.type "list",dict:=none,data:=.seq ([]:List Value).toArray}:=Heap.get?_push_size _ rfl;have Fx:(s2.heap.push {cls:=.type "list",dict:=none,data:=.seq ([]:List Value).toArray}).objs.size=s2.heap.objs.size+1:=Heap.size_push _ _;generalize hHH:s2.heap.push {cls:=.type "list",dict:=none,data:=.seq ([]:List Value).toArray}=HH at ld dl mt Cl Fx ⊢;have I3:Inv X ad σ (upd H2 s2.heap.objs.size (.lst [])) {s2 with heap:=HH,toks:=s2.toks}:=
  I2.laid (t':=s2.toks) (o:=.lst []) mt (Nat.le_refl _) ⟨Nat.zero_le _,[],0,.nil,Cl⟩
 have Fy:∀b∈fp,FpOk X ad (upd H2 s2.heap.objs.size (.lst [])) b:=fun b hb=>by obtain⟨f0,FF⟩:=f2 b hb;exact⟨by rw[aN (Nat.ne_of_lt (flt b hb))];exact f0,FF⟩
 have BT:∀b u,HH.get? b=some u->h₁.get? b=some u:=fun b u e=>dl.extBut b u (Nat.ne_of_lt (Heap.lt_size e)) (Heap.get?_push_of_some _ e);exact nk (Q:=fun x H1=>gName i x σ H1 D.nx) (s3:={ s2 with heap:=HH,toks:=s2.toks}) hc hkind hx hx2 hnd FE F hfx ht he I3 T (T.keep _ _ _ Fr fun b hb o e=>mt b o e) Fy (fun b hb=>by show b < HH.objs.size;rw[Fx];exact Nat.lt_succ_of_lt (flt b hb)) w0 Fn ld BT fun s6 H5 o o2 I6 qn=>by
  have nC:H5 HH.objs.size=none:=I6.free;have I7:Inv X ad σ H5 s6:=fj (h':=s6.heap) I3 I6 Fy ⟨rfl,fun _ _=>rfl⟩;obtain⟨f0,f1,f2,f3,f4,f5⟩:=I3.fpOk (H':=H5) (b:=HH.objs.size) (Nat.le_refl _) nC;obtain⟨m,FD,_⟩:=id I6.loc;show wpAny _ X.A (assign (.Name y py) X.env (.ref _)) _ _ s6;refine wpAny_assign_Name (ic I7 hN hiN (.inl hy) (v:=.ref _) rfl (fun s8 I8 Fz=>?_) (.inr hy));obtain⟨a,sb,ha⟩:=Fz;have FC:HH.objs.size≠a:=by
   rcases ha with rfl|ha
   ·exact f1
   ·exact fun z=>f4 y a ha z.symm
  refine⟨m,FD.sameBut sb FC,fun h' FA=>?_⟩;exact⟨_,H5,I8.turned (t':=s8.toks) (it:=HH.objs.size) (fun b o hb e=>FA.extBut b o hb e) f0 f1 f3 f4 f5,qn⟩
end
section
variable {p:Addr}{fv:St}{te:TE}{Q:VK}{H1:Hp}{K:W.Frag}
theorem Aw {a:Addr}{xs zs:List V}{f:Nat->V×V}(hxs:SqT K H1 a xs)(hlen:xs.length≤sizeLine)(hp:H1 p=none)(hz:zs.length=xs.length)
  (hit:∀(i:Nat) (x:V) (H':Hp),xs[i]?=some x->Same H1 H'->∃b,x=.ref b∧SqT K H' b [(f i).1,(f i).2])
  (he:∀(i:Nat) (z:V),i < xs.length->zs[i]?=some z->∀(H':Hp) (T:VK),Same H1 H'->(∀H'',Same H' H''->T z H'')->te (some (f i).1::some (f i).2::fv) H' T)
  (hQ:∀H',Same H1 H'->H' p=some (.lst zs)->Q (.ref p) H'):CompI2 K (Itt K a) p fv tYes te Q H1:=by
 refine⟨fun i m ys H2=>m=xs.length - i∧i≤xs.length∧ys=zs.take i∧H2 p=some (.lst ys)∧Same H1 H2,⟨xs.length,by simp,Nat.zero_le _,by simp,aL,fun b o e=>by rw[aN (aY e hp)];exact e⟩,?_⟩;rintro i m ys H2 ⟨rfl,hi,rfl,dl,sm⟩;refine⟨dl,?_⟩;have q:=sm.tup hxs;by_cases ad:i < xs.length
 ·refine .inr ⟨⟨xs,xs[i],q,by simp[ad]⟩,?_,fun x H3 y=>?_⟩
  ·rw[length_take];lia
  ·obtain⟨rfl,y⟩:=y;have hc:=y xs q;obtain⟨b,rfl,hb⟩:=hit i x H3 hc sm;refine⟨b,_,_,rfl,hb,?_⟩;unfold tYes;dsimp only;rw[if_pos rfl];have ld:zs[i]?=some zs[i]:=by simp[hz,ad]
   refine he i _ ad ld _ _ sm fun H5 s5=>⟨s5 _ _ dl,xs.length - (i+1),by lia,rfl,ad,?_,aL,fun b o e=>?_⟩
   ·rw[take_add_one,ld];rfl
   ·rw[aN (aY e hp)];exact s5 _ _ (sm _ _ e)
 ·have e:i=xs.length:=by lia
  subst e;refine .inl ⟨⟨xs,q,Nat.le_refl _⟩,hQ H2 sm ?_⟩;rw[dl,<- hz,take_length]
theorem Ax {tl:TE}{tt:TT}{fr:List Nat}{σ:St}{H:Hp}:(tComp2 K (iTup K tl) fr tt te σ H Q)=(tl σ H fun x H1=>∃a,x=.ref a∧(∃xs,SqT K H1 a xs)∧∀p,H1 p=none->CompI2 K (Itt K a) p (frV σ fr) tt te Q H1):=rfl
end
section
variable {X:Cx}
noncomputable def rFind:V->List V->Hp->VK->Prop:=fun x vs H Q=>match x,vs with
 |.str z,[.str y]=>Q (.int (Txt.find z y)) H
 |_,_=>False
theorem Ay {z y:Str}{H:Hp}{Q:VK}:(rFind (.str z) [.str y] H Q)=(Q (.int (Txt.find z y)) H):=rfl
end
end L2
namespace Wm
open PySem L2
theorem Az (s:Stp)(L:List Stp):inV (sV s) (L.map sV)=decide (s∈L):=by
 have e:∀a:Stp,eqV (sV a) (sV s)=decide (s=a):=fun a=>by show ((⟨a.toArray⟩:Str) == ⟨s.toArray⟩)=decide (s=a);rw[Bool.eq_iff_iff,beq_iff_eq,decide_eq_true_eq,ar];exact⟨Eq.symm,Eq.symm⟩
 unfold inV;rw[Bool.eq_iff_iff,decide_eq_true_eq,List.any_eq_true];constructor
 ·rintro⟨x,hx,h⟩;obtain⟨a,ha,rfl⟩:=mem_map.mp hx;rw[e,decide_eq_true_eq] at h;rw[h];exact ha
 ·intro h;exact⟨sV s,mem_map.mpr ⟨s,h,rfl⟩,by rw[e];simp⟩
end Wm
namespace Wm
end Wm
namespace L2
open PySem
theorem AA {l:Addr}{H:Hp}{Q:VK}{i:Int}:rPopAt (.ref l) [.int i] H Q↔∃xs k y,H l=some (.lst xs)∧-(2 ^ 63)≤i∧i < 2 ^ 63∧seqIndex? i xs.length=some k∧xs[k]?=some y∧Q y (upd H l (.lst (xs.eraseIdx k))):=
 ⟨fun⟨_,xs,_,k,y,h1,h2,h⟩=>by cases h1;cases h2;exact⟨xs,k,y,h⟩,fun⟨xs,k,y,h⟩=>⟨_,xs,_,k,y,rfl,rfl,h⟩⟩
end L2
namespace L2
open PySem PySem.Spec PySem.W PyProof.Rows
noncomputable abbrev vErr:List Value:=[.type "ValueError",.type "Exception",.type "BaseException",.type "object"]
noncomputable abbrev vNew:String := "ValueError.__new__"
noncomputable def clsIs (d:Data)(f:ClassData->Bool):Bool:=match d with
 |.cls c=>f c
 |_=>false
noncomputable def excInJ (K:Frag)(C:Addr)(bmB:List Value)(newId:String)(v:Option Value):Bool:=match K.lookup C with
 |some o=>o.cls == .type "type" && clsIs o.data fun cd=>cd.mro == .ref C::cd.mro.tail && (o.slots == #[o.slots.getD 0 none,o.slots.getD 1 none,o.slots.getD 2 none,o.slots.getD 3 none,some (.builtin newId),o.slots.getD 5 none] && (!cd.hasDel && (tailIn K bmB cd.mro.tail && (nsOkIn K cd.ns && nsIn K cd.ns "__init__" == some v))))
 |_=>false
noncomputable def tRaise (E:XK)(C:Addr):TS:=fun _ _ H=>E (.ref C) none H
theorem nu {E:XK}{C:Addr}{D:Ends}{σ:St}{H:Hp}:(tRaise E C D σ H)=(E (.ref C) none H):=rfl
structure Flown (P:Program)(w:World)(base:Heap)(outer:List Env)(H:Hp)(s:Shared)(a t C:Addr)(B:Heap)(H':Hp)(s':Shared):Prop where
 os:s'.os=s.os
 bare:AllBare s'.gens
 st:base.StaysIn B
 fly:Heap.FlyingW B outer a (.ref C) (.ref t) s'.heap
 hok:HOk P w H' B
 un:Un (frs outer) [] H H' s.heap s'.heap
 kb:∀b o,s.heap.get? b=some o->H b=none->b∉frs outer->B.get? b=some o
 thB:∀b o,s.heap.get? b=some o->b∉frs outer->∃o',B.get? b=some o'
section
variable {P:Program}{w:World}{K:Frag}{mg:Str->Option Value}{base:Heap}{N:List Str}{qual:Str}{scope:Scope}{f:Addr}{cd:Value}{A:Around}{outer:List Env}{s:Shared}{H:Hp}{E:XK}
end
noncomputable def exO (a C:Addr):HO:=.ext fun h=>∃o,h.get? a=some o∧o.cls=.ref C
section
variable {X:Cx}{pins:List (Addr×Obj)}{σ:St}{H H1 H2:Hp}{s s1 s2:Shared}
end
structure Catch (K:Frag)(W:Addr):Prop where
 ty:typeIn K (.ref W)=some (.type "type")
 ex:subIn K (.ref W) (.type "BaseException")=some true
 cl:(clsIn K W).isSome=true
noncomputable def tTry (K:Frag)(sp:Sp)(t:TA)(W:Addr)(i:Nat)(tb:TS):TS:=fun D σ H=>t σ H fun vs H1=>sp vs H1 (fun _ H2=>D.nx σ H2) fun cls _ H2=>
 ∃C,cls=.ref C∧subIn K (.ref C) (.ref W)=some true∧∀a,H2 a=none->tb {nx:=fun σ' H'=>D.nx (σ'.set i none) H',rt:=D.rt} (σ.set i (some (.ref a))) (upd H2 a (exO a C))
end L2
namespace L2
open PySem PySem.Spec PySem.W PySem.Calls PyProof.Rows PySem.Builtin PySem.Builtin.ObjectAttr PySem.Builtin.Getset_descriptor
structure ExLook (K:Frag)(C:Addr):Prop where
 ga:findIn K (.ref C) "__getattribute__"=some (some (.builtin "BaseException.__getattribute__"))
 cl:findIn K (.ref C) "__class__"=some (some (.builtin "object.__class__"))
 na:findIn K (.ref C) "__getattr__"=some none
 mo:mroIn K C (.type "object")=some true
 mb:mroIn K C (.type "BaseException")=some true
 is:(clsIn K C).isSome=true
section
variable {prog:Program}{w:World}{A:Around}{E:Value->Shared->Prop}{hh:Heap}{g:Array GenState}{dr:Drawn}{t:Nat}{os:OsState}{K:Frag}{a C:Addr}{o:Obj}
end
inductive KitAns (K:Frag)(H:Hp)(C:Addr):V->Bool->Prop
 |cls {W:Addr}{b:Bool}:kitOne K (.ref C) (.ref W)=some b->KitAns K H C (.ref W) b
 |ty {T:String}{b:Bool}:kitOne K (.ref C) (.type T)=some b->KitAns K H C (.ty T) b
 |tup {p:Addr}{cs:List Addr}{b:Bool}:H p=some (.tup (cs.map V.ref))->kitAny K (.ref C) (cs.map Value.ref)=some b->KitAns K H C (.ref p) b
noncomputable def rIsE (K:Frag):List V->Hp->VK->Prop:=fun vs H Q=>∃a c C b,vs=[.ref a,c]∧H a=some (exO a C)∧ExLook K C∧KitAns K H C c b∧Q (.bl b) H
end L2
namespace L2
open PySem PySem.W
theorem AB {K:Frag}{a:Addr}{c:V}{H:Hp}{Q:VK}:rIsE K [.ref a,c] H Q↔∃C b,H a=some (exO a C)∧ExLook K C∧KitAns K H C c b∧Q (.bl b) H:=
 ⟨fun⟨_,_,C,b,e,h⟩=>by cases e;exact⟨C,b,h⟩,fun⟨C,b,h⟩=>⟨a,c,C,b,rfl,h⟩⟩
theorem AC {K:Frag}{sp:Sp}{t:TA}{W:Addr}{i:Nat}{tb:TS}{D:Ends}{σ:St}{H:Hp}:tTry K sp t W i tb D σ H↔t σ H fun vs H1=>sp vs H1 (fun _ H2=>D.nx σ H2) fun cls _ H2=>
 ∃C,cls=.ref C∧subIn K (.ref C) (.ref W)=some true∧∀a,H2 a=none->tb {nx:=fun σ' H'=>D.nx (σ'.set i none) H',rt:=D.rt} (σ.set i (some (.ref a))) (upd H2 a (exO a C)):=Iff.rfl
end L2
namespace L2
open PySem PySem.Spec PyProof.Rows
theorem sw3 (x y:Str)(t u:Tok)(i:Nat)(v:Tok) :
  Meets (Builtin.«str.startswith» ⟨[.str x t,.str y u,.int (i:Int) v],[]⟩) (fun _ R s=>R (.ok (.ret (.bool (decide (i+y.length≤x.length) && Builtin.Str.subAt x y i)))) s):=
 .of_wp fun prog w A R s h=>by
  obtain⟨hp,g,d,tk,os⟩:=s;unfold Builtin.«str.startswith»
  wp_walk
  rw[F.slot_int_index.lookup]
  wp_walk
  refine⟨_,rfl,?_⟩;have e1:(max (0:Int) (if (i:Int) < 0 then (i:Int)+(x.length:Int) else (i:Int))).toNat=i:=by rw[if_neg (by lia)];lia
  have e2:min ((x.length:Nat):Int).toNat x.length=x.length:=by lia
  dsimp only;rw[e1,e2];exact h
section
variable {X:Cx}
noncomputable def rStarts:V->List V->Hp->VK->Prop:=fun x vs H Q=>∃z y,∃i:Nat,x=.str z∧vs=[.str y,.int (i:Int)]∧Q (.bl (decide (i+y.length≤z.length) && Builtin.Str.subAt z y i)) H
theorem AD:MtR X "str.startswith" rStarts:=by intro ad s σ H x vs v us Q I rx rv h;obtain⟨z,y,i,rfl,rfl,q⟩:=h;obtain⟨t,rfl⟩:=rx;obtain⟨u1,u2,rfl,r1,r2⟩:=vals2 rv;obtain⟨t1,rfl⟩:=r1;obtain⟨t2,rfl⟩:=r2;exact call_meets F.slot_str_startswith (typeIs_str _ _ _) F.entry_str_startswith (F.args_str_startswith_3 _ _ _) (sw3 z y t t1 i t2) ⟨.bl _,H,I,rfl,q⟩
end
section
variable {X:Cx}
noncomputable def rPart:V->List V->Hp->VK->Prop:=fun x vs H Q=>∃z y,x=.str z∧vs=[.str y]∧(y.length == 0)=false∧z.length≤sizeLine ∧
 ∀p,H p=none->Q (.ref p) (upd H p (.tup [.str (Txt.partition z y).1,.str (Txt.partition z y).2.1,.str (Txt.partition z y).2.2]))
theorem gI:MtR X "str.partition" rPart:=by
 intro ad s σ H x vs v us Q I rx rv h;obtain⟨z,y,rfl,rfl,hy,hz,q⟩:=h;obtain⟨t,rfl⟩:=rx;obtain⟨u,rfl,t',rfl⟩:=vals1 rv;have hf:H s.heap.objs.size=none:=I.hok.fresh (Nat.le_refl _);have q:=q _ hf;refine call_meets F.slot_str_partition (typeIs_str _ _ _) F.entry_str_partition (F.args_str_partition_2 _ _) (meets_str_partition z y t t' hy hz) ?_;unfold Txt.partition at q;revert q;cases Builtin.Str.occurrences z y 0 z.length 1 with
 |nil=>intro q;refine⟨.ref s.heap.objs.size,_,I.laid (t':=s.toks+1) (o:=.tup _) (fun b u e=>Heap.get?_push_of_some _ e) (by lia) ?_,rfl,q⟩;exact⟨by show 3≤sizeLine;decide,_,.cons ⟨_,rfl⟩ (.cons ⟨_,rfl⟩ (.cons ⟨_,rfl⟩ .nil)),IsTup.new _ _⟩
 |cons i r=>intro q;refine⟨.ref s.heap.objs.size,_,I.laid (t':=s.toks+1+1) (o:=.tup _) (fun b u e=>Heap.get?_push_of_some _ e) (by lia) ?_,rfl,q⟩;exact⟨by show 3≤sizeLine;decide,_,.cons ⟨_,rfl⟩ (.cons ⟨_,rfl⟩ (.cons ⟨_,rfl⟩ .nil)),IsTup.new _ _⟩
end
theorem nv {us:List Value}{d:Value}(h:(us++[d]).length=3):∃x y,us=[x,y]:=by
 match us,h with
 |[x,y],_=>exact⟨x,y,rfl⟩
 |[],h=>simp at h
 |[_],h=>simp at h
 |_::_::_::_,h=>simp at h
section
variable {X:Cx}
noncomputable def rIntS:List V->Hp->VK->Prop:=fun xs H Q=>∃z n,xs=[.str z]∧z.length≤640∧PySem.intText? z=some n∧Q (.int n) H
theorem jG:CallR X (.type "int") rIntS:=by intro pins s σ H xs us Q I r h;obtain⟨z,n,rfl,hz,hn,q⟩:=h;obtain⟨u,rfl,t,rfl⟩:=vals1 r;exact PySem.W.KIN.call_text hn hz ⟨.int n,H,I.tok _,⟨_,rfl⟩,q⟩
theorem AE {z:Str}{H:Hp}{Q:VK}:rIntS [.str z] H Q↔∃n,z.length≤640∧PySem.intText? z=some n∧Q (.int n) H:=
 ⟨fun⟨_,n,e,h⟩=>by cases e;exact⟨n,h⟩,fun⟨n,h⟩=>⟨z,n,rfl,h⟩⟩
theorem AF {z y:Str}{i:Nat}{H:Hp}{Q:VK}:rStarts (.str z) [.str y,.int (i:Int)] H Q↔Q (.bl (decide (i+y.length≤z.length) && Builtin.Str.subAt z y i)) H:=
 ⟨fun⟨_,_,j,e1,e2,h⟩=>by
  cases e1;injection e2 with e2 e3;cases e2;injection e3 with e3;injection e3 with e3;obtain rfl:i=j:=by lia
  exact h,fun h=>⟨z,y,i,rfl,rfl,h⟩⟩
theorem ny {z y:Str}{H:Hp}{Q:VK}:rPart (.str z) [.str y] H Q↔(y.length == 0)=false∧z.length≤sizeLine∧∀p,H p=none->Q (.ref p) (upd H p (.tup [.str (Txt.partition z y).1,.str (Txt.partition z y).2.1,.str (Txt.partition z y).2.2])):=
 ⟨fun⟨_,_,e1,e2,h⟩=>by cases e1;cases e2;exact h,fun h=>⟨z,y,rfl,rfl,h⟩⟩
theorem AG {K:W.Frag}{ta:TE}{f:Str}{σ:St}{H:Hp}{Q:VK}:(tFld K ta f σ H Q)=(ta σ H fun x H1=>∃a C dx fs v,x=.ref a∧H1 a=some (.ins C dx fs)∧Cls K C∧NoAttr K C f∧fs.lookup f=some v∧Q v H1):=rfl
theorem AH {K:W.Frag}{ta tv:TE}{f:Str}{D:Ends}{σ:St}{H:Hp}:(sFld K ta tv f D σ H)=(tv σ H fun y H1=>ta σ H1 fun x H2=>∃a C dx fs,x=.ref a∧H2 a=some (.ins C dx fs)∧Cls K C∧NoAttr K C f∧fs.length < 1000∧D.nx σ (upd H2 a (.ins C dx (putF f y fs)))):=rfl
theorem AI {C:Addr}{m:Str}{sp:Sp}{dvs:List V}{E:XK}{ta:TE}{t:TA}{σ:St}{H:Hp}{Q:VK}:(tMeth C m sp dvs E ta t σ H Q)=(ta σ H fun x H1=>∃a dx fs,x=.ref a∧H1 a=some (.ins C dx fs)∧fs.lookup m=none∧t σ H1 fun vs H2=>sp (x::(vs++dvs)) H2 Q E):=rfl
theorem AJ {C:Addr}{sp:Sp}{dvs:List V}{E:XK}{t:TA}{σ:St}{H:Hp}{Q:VK}:(tMake C sp dvs E t σ H Q)=(t σ H fun vs H1=>∀x dx,H1 x=none->H1 dx=none->dx≠x->sp (.ref x::(vs++dvs)) (upd (upd H1 dx (.own x)) x (.ins C dx [])) (fun v H2=>v=.non∧Q (.ref x) H2) E):=rfl
end
end L2
namespace Wm
open PySem L2
theorem jH (t w:List Nat)(i:Nat)(hi:i≤t.length):(decide (i+(⟨w.toArray⟩:Str).length≤(⟨t.toArray⟩:Str).length) && Builtin.Str.subAt ⟨t.toArray⟩ ⟨w.toArray⟩ i)=decide ((t.drop i).take w.length=w):=by
 rw[aU,aU];have e:Builtin.Str.subAt ⟨t.toArray⟩ ⟨w.toArray⟩ i=decide ((t.drop i).take w.length=w):=by unfold Builtin.Str.subAt;rw[aU,Bool.eq_iff_iff,beq_iff_eq,decide_eq_true_eq];show (t.toArray.extract i (i+w.length)=w.toArray)↔_;rw[<- Array.toList_inj];simp
 rw[e];by_cases h:(t.drop i).take w.length=w
 ·have hl:=congrArg List.length h;rw[length_take,length_drop] at hl;rw[decide_eq_true h,Bool.and_true];by_cases hw:w.length=0
  ·rw[hw,Nat.add_zero];exact decide_eq_true hi
  ·exact decide_eq_true (by lia)
 ·rw[decide_eq_false h,Bool.and_false]
theorem occ1 (x y:Str):∀(l:List Nat) (free:Nat),(∀i∈l,free≤i) ->
  (forIn l ((#[]:Array Nat),free) (StrLaws.occBody x y x.length 1)).run.fst.toList=(l.find? fun i=>decide (i+y.length≤x.length) && Builtin.Str.subAt x y i).toList
 |[],free,_=>rfl
 |a::l,free,hf=>by
  rw[forIn_cons,List.find?_cons];have ha:free≤a:=hf a (mem_cons_self ..);by_cases hc:a+y.length≤x.length∧Builtin.Str.subAt x y a=true
  ·have e:(decide (a+y.length≤x.length) && Builtin.Str.subAt x y a)=true:=by rw[decide_eq_true hc.1,hc.2];rfl
   rw[e];unfold StrLaws.occBody;rw[if_pos ⟨⟨⟨by simp,ha⟩,hc.1⟩,hc.2⟩];have full:∀(l:List Nat) (st:Array Nat×Nat),st.1.size=1->(forIn l st (StrLaws.occBody x y x.length 1)).run.fst=st.1:=by
    intro l;induction l with
    |nil=>intro st _;rfl
    |cons b l ih=>intro st hs;rw[forIn_cons];unfold StrLaws.occBody;rw[if_neg (fun h=>by have:=h.1.1.1;lia)];exact ih st hs
   show (forIn l ((#[]:Array Nat).push a,a+y.length) (StrLaws.occBody x y x.length 1)).run.fst.toList=_;rw[full l _ (by simp)];simp
  ·have e:(decide (a+y.length≤x.length) && Builtin.Str.subAt x y a)=false:=by
    cases h1:Builtin.Str.subAt x y a with
    |false=>rw[Bool.and_false]
    |true=>rw[Bool.and_true];exact decide_eq_false fun z=>hc ⟨z,h1⟩
   rw[e];unfold StrLaws.occBody;rw[if_neg (fun h=>hc ⟨h.1.2,h.2⟩)];exact occ1 x y l free fun i hi=>hf i (mem_cons_of_mem _ hi)
noncomputable def ahead (t:List Nat):List Nat:=t.takeWhile fun c=>decide (c≠58)
theorem AK (t:List Nat)(i:Nat):(decide (i+(⟨[58].toArray⟩:Str).length≤(⟨t.toArray⟩:Str).length) && Builtin.Str.subAt ⟨t.toArray⟩ ⟨[58].toArray⟩ i)=decide (t[i]?=some 58):=by
 by_cases hi:i≤t.length
 ·rw[jH t [58] i hi,decide_eq_decide];cases h:t.drop i with
  |nil=>have:t[i]?=none:=List.getElem?_eq_none (by have:=congrArg List.length h;rw[length_drop,length_nil] at this;lia);rw[this];simp
  |cons c r=>
   have:t[i]?=some c:=by rw[<- List.head?_drop,h];rfl
   rw[this];simp
 ·rw[List.getElem?_eq_none (by lia),aU,aU,decide_eq_false (by rw[length_singleton];lia)];rfl
theorem AL (t:List Nat):∀(k:Nat),k≤t.length->(t.take k).all (fun c=>decide (c≠58))=true ->
  ((List.range' k (t.length+1 - k)).find? fun i=>decide (t[i]?=some 58))=if 58∈t then some (ahead t).length else none:=by
 intro k;induction hn:t.length - k generalizing k with
 |zero=>
  intro hk ha;have e:k=t.length:=by lia
  subst e;rw[take_length] at ha;have ld:58∉t:=fun h=>by have:=all_eq_true.mp ha 58 h;simp at this
  rw[if_neg ld,show t.length+1 - t.length=1 by lia];simp
 |succ n ih=>
  intro hk ha;have dl:k < t.length:=by lia
  have hc:t[k]?=some t[k]:=List.getElem?_eq_getElem dl;rw[show t.length+1 - k=(t.length+1 - (k+1))+1 by lia,List.range'_succ,List.find?_cons,hc];by_cases ad:t[k]=58
  ·rw[ad];simp only[decide_true];rw[if_pos (by rw[<- ad];exact getElem_mem dl)]
   congr 1
   have ht:t=t.take k++58::t.drop (k+1):=by rw[<- ad,List.getElem_cons_drop,take_append_drop]
   unfold ahead;rw[ht,List.takeWhile_append_of_pos (fun c mt=>all_eq_true.mp ha c mt),List.takeWhile_cons_of_neg (by simp)];simp;lia
  ·rw[show decide (some t[k]=some 58)=false from decide_eq_false (by simpa using ad)];refine ih (k+1) (by lia) (by lia) ?_;rw[take_add_one,hc,List.all_append,ha];simpa using ad
theorem AM (t:List Nat):(Txt.partition ⟨t.toArray⟩ ⟨[58].toArray⟩).1=⟨(ahead t).toArray⟩:=by
 have e:Builtin.Str.occurrences (⟨t.toArray⟩:Str) ⟨[58].toArray⟩ 0 (⟨t.toArray⟩:Str).length 1=(if 58∈t then some (ahead t).length else none).toList:=by rw[StrLaws.occ_eq,occ1 _ _ _ _ (fun i _=>Nat.zero_le i)];simp only[AK];rw[aU];exact congrArg Option.toList (AL t 0 (Nat.zero_le _) rfl)
 unfold Txt.partition;rw[e];by_cases h:58∈t
 ·rw[if_pos h];show Builtin.Str.strSub ⟨t.toArray⟩ 0 (ahead t).length=_;unfold Builtin.Str.strSub;have hp:t.take (ahead t).length=ahead t:=(List.prefix_iff_eq_take.mp (List.takeWhile_prefix _)).symm;rw[<- hp,length_take];have:(ahead t).length≤t.length:=(List.takeWhile_prefix _).length_le;rw[show min (ahead t).length t.length=(ahead t).length by lia];show (⟨t.toArray.extract 0 (ahead t).length⟩:Str)=_;simp
 ·rw[if_neg h];have ad:∀l:List Nat,58∉l->ahead l=l:=fun l=>by
   induction l with
   |nil=>intro _;rfl
   |cons c l ih=>intro hl;have h1:c≠58:=fun z=>hl (by rw[z];exact mem_cons_self ..);unfold ahead;rw[List.takeWhile_cons,if_pos (decide_eq_true h1)];exact congrArg (c::·) (ih fun z=>hl (mem_cons_of_mem _ z))
  have:ahead t=t:=ad t h;rw[this];rfl
noncomputable def Cur (H:Hp)(C p:Addr)(t:List Nat)(k:Nat):Prop:=∃dx,H p=some (.ins C dx [("text",.str ⟨t.toArray⟩),("place",.int (k:Int))])
inductive WrT (fr:List Nat):List Nat->List Nat->Prop
 |nil:WrT fr [] []
 |self {c:Nat}{s w:List Nat}:(isPl c=true∨c∈fr)->c≠126->WrT fr s w->WrT fr (c::s) (c::w)
 |pair {c a b:Nat}{s w:List Nat}:sgO a b=some c->WrT fr s w->WrT fr (c::s) (126::a::b::w)
noncomputable def Stops (fr r:List Nat):Prop:=∀c,r.head?=some c->isPl c=false∧c∉fr∧c≠126
noncomputable def moV:Option Nat->V
 |none=>.non
 |some m=>.int (m:Int)
theorem bj {fr s:List Nat}(h:∀c∈s,isSg c=true):WrT fr s (wr s):=by
 induction s with
 |nil=>exact .nil
 |cons c s ih=>
  have hc:=h c (mem_cons_self ..);have ih:=ih fun d hd=>h d (mem_cons_of_mem _ hd);show WrT fr (c::s) (wr1 c++wr s);unfold wr1;by_cases hp:isPl c=true
  ·rw[if_pos hp];exact .self (.inl hp) (fun z=>by rw[z] at hp;cases hp) ih
  ·rw[if_neg hp];exact .pair (zN hc) ih
theorem nz {a n:Nat}(h:fig a=some n):a < 128∧n < 16∧(n < 10->a=48+n):=by
 unfold fig at h;split at h
 ·cases h;lia
 ·split at h
  ·cases h;lia
  ·split at h
   ·cases h;lia
   ·cases h
theorem jI {a b c:Nat}(h:sgO a b=some c):a∈(Str.ofString "234567").cps.toList∧a < 128∧b < 128∧isSg c=true:=by
 unfold sgO at h;cases ha:fig a with
 |none=>simp[ha] at h
 |some n=>
  cases hb:fig b with
  |none=>simp[ha,hb] at h
  |some m=>
   simp only[ha,hb] at h;split at h
   ·next hs=>
    cases h;obtain⟨a1,a2,a3⟩:=nz ha;obtain⟨b1,b2,_⟩:=nz hb;have hr:=hs;simp only[isSg,Bool.and_eq_true,decide_eq_true_eq] at hr;have e:=a3 (by lia);refine⟨?_,a1,b1,hs⟩;have ad:∀n,n < 8->2≤n->48+n∈(Str.ofString "234567").cps.toList:=by decide +kernel
    rw[e];exact ad n (by lia) (by lia)
   ·cases h
section
variable {K:W.Frag}{H:Hp}{C p:Addr}{t:List Nat}{i:Nat}
theorem AN {v u:V}:List.lookup (Str.ofString "text") [(Str.ofString "text",v),(Str.ofString "place",u)]=some v:=by rw[lookup_cons,beq_self_eq_true]
theorem AO {v u:V}:List.lookup (Str.ofString "place") [(Str.ofString "text",v),(Str.ofString "place",u)]=some u:=by rw[lookup_cons,show (Str.ofString "place" == Str.ofString "text")=false by decide +kernel,lookup_cons,beq_self_eq_true]
theorem cZ {R:V->Prop}(h:Cur H C p t i)(cl:Cls K C)(n:NoAttr K C "text")(r:R (.str ⟨t.toArray⟩)):∃a C dx fs v,p=a∧H a=some (.ins C dx fs)∧Cls K C∧NoAttr K C (Str.ofString "text")∧List.lookup (Str.ofString "text") fs=some v∧R v:=
 let ⟨dx,hp⟩:=h
 ⟨p,C,dx,_,_,rfl,hp,cl,n,AN,r⟩
theorem bz {R:V->Prop}(h:Cur H C p t i)(cl:Cls K C)(n:NoAttr K C "place")(r:R (.int (i:Int))):∃a C dx fs v,p=a∧H a=some (.ins C dx fs)∧Cls K C∧NoAttr K C (Str.ofString "place")∧List.lookup (Str.ofString "place") fs=some v∧R v:=
 let ⟨dx,hp⟩:=h
 ⟨p,C,dx,_,_,rfl,hp,cl,n,AO,r⟩
theorem AQ {v u w:V}:putF (Str.ofString "place") w [(Str.ofString "text",v),(Str.ofString "place",u)]=[(Str.ofString "text",v),(Str.ofString "place",w)]:=by
 have h:Str.ofString "text" ≠ Str.ofString "place" := by decide +kernel
 simp only[putF,if_neg h,if_true]
theorem o0 {N:Hp->Prop}{z:Int}(h:Cur H C p t i)(cl:Cls K C)(n:NoAttr K C "place")(j:Nat)(hz:z=(j:Int))(hN:∀H',SameBut p H H'->Cur H' C p t j->N H') :
  ∃a C dx fs,p=a∧H a=some (.ins C dx fs)∧Cls K C∧NoAttr K C (Str.ofString "place")∧fs.length < 1000∧N (upd H a (.ins C dx (putF (Str.ofString "place") (.int z) fs))):=by
 obtain⟨dx,hp⟩:=h;refine⟨p,C,dx,_,rfl,hp,cl,n,by show 2 < 1000;decide,?_⟩;rw[AQ,hz];exact hN _ bg ⟨dx,aL⟩
theorem AR {m:Str}{v u:V}(h1:(m == Str.ofString "text")=false)(h2:(m == Str.ofString "place")=false):List.lookup m [(Str.ofString "text",v),(Str.ofString "place",u)]=none:=by rw[lookup_cons,h1,lookup_cons,h2];rfl
theorem af {R:Prop}{m:Str}(h:Cur H C p t i)(r:R)(h1:(m == Str.ofString "text")=false:=by decide +kernel)(h2:(m == Str.ofString "place")=false:=by decide +kernel) :
  ∃a dx fs,p=a∧H a=some (.ins C dx fs)∧List.lookup m fs=none∧R:=
 let ⟨dx,hp⟩:=h
 ⟨p,dx,_,rfl,hp,AR h1 h2,r⟩
theorem Cur.same {H':Hp}(h:Cur H C p t i)(s:Same H H'):Cur H' C p t i:=let ⟨dx,hp⟩:=h;⟨dx,s _ _ hp⟩
end
noncomputable def plS:List Nat:=(Str.ofString "abcdefghijklmnopqrstuvwxyzABCDEFGHIJKLMNOPQRSTUVWXYZ0123456789-_.").cps.toList
theorem o5:plS.length=65:=by decide +kernel
theorem gJ {c:Nat}(h:c < 128):(c∈plS)↔isPl c=true:=by have:=j7 c h;rw[<- this,decide_eq_true_eq];exact Iff.rfl
noncomputable def seesB (t sg:List Nat)(i:Nat):Bool:=((t[i]?).map fun c=>decide (c∈sg)).getD false
theorem cJ {t sg:List Nat}{i c:Nat}(h:t[i]?=some c):seesB t sg i=decide (c∈sg):=by unfold seesB;rw[h];rfl
theorem jJ {t sg:List Nat}{i:Nat}(h:t[i]?=none):seesB t sg i=false:=by unfold seesB;rw[h];rfl
theorem gK {t w:List Nat}{i c:Nat}(h:t.drop i=c::w):t[i]?=some c∧i < t.length:=by
 have e:t[i]?=some c:=by rw[<- List.head?_drop,h];rfl
 exact⟨e,(List.getElem?_eq_some_iff.mp e).1⟩
theorem gL {fr s w:List Nat}(h:WrT fr s w):s.length≤w.length:=by
 induction h with
 |nil=>exact Nat.le_refl _
 |self _ _ _ ih=>simp only[length_cons];lia
 |pair _ _ ih=>simp only[length_cons];lia
noncomputable def frS:List Nat:=(Str.ofString "!$'()*,;@&=+").cps.toList
noncomputable def frQ:List Nat:=(Str.ofString "!$'()*,;@+/?:").cps.toList
noncomputable def frM:List Nat:=(Str.ofString "!$'()*,;@&=+/?:").cps.toList
theorem dy:frS.length≤100:=by decide +kernel
theorem gM:frQ.length≤100:=by decide +kernel
theorem AS:frM.length≤100:=by decide +kernel
theorem jK {fr:List Nat}:Stops fr []:=fun c h=>by cases h
theorem ca {fr r:List Nat}{c:Nat}(h:isPl c=false∧c∉fr∧c≠126):Stops fr (c::r):=fun d e=>by cases e;exact h
noncomputable def MarW (o:Option (List Nat))(w:List Nat):Prop:=match o with
 |none=>w=[]
 |some s=>∃v,w=35::v∧WrT frM s v
noncomputable def ValW (o:Option (List Nat))(w:List Nat):Prop:=match o with
 |none=>w=[]
 |some s=>∃v,w=61::v∧WrT frQ s v
noncomputable def HouW (o:Option (List Nat))(w:List Nat):Prop:=match o with
 |none=>w=[]
 |some s=>∃v,w=47::47::v∧WrT [] s v∧s≠[]∧s.length≤60
inductive TlW:List (List Nat)->Bool->List Nat->Prop
 |stop:TlW [] false []
 |ends:TlW [] true [47]
 |more {s w:List Nat}{ss:List (List Nat)}{e:Bool}{v:List Nat}:WrT frS s w->s≠[]->TlW ss e v->TlW (s::ss) e (47::(w++v))
inductive StpW:List (List Nat)->Bool->List Nat->Prop
 |none {e:Bool}:StpW [] e []
 |some {s w:List Nat}{ss:List (List Nat)}{e:Bool}{v:List Nat}:WrT frS s w->s≠[]->TlW ss e v->StpW (s::ss) e (w++v)
theorem jL:(47:Nat)∉frS:=by decide +kernel
theorem o6 {fr s w:List Nat}(h:WrT fr s w)(hs:s≠[]):∃c r,w=c::r∧(isPl c=true∨c∈fr∨c=126):=by
 cases h with
 |nil=>exact absurd rfl hs
 |self a _ _=>exact⟨_,_,rfl,a.elim .inl (fun z=>.inr (.inl z))⟩
 |pair _ _=>exact⟨_,_,rfl,.inr (.inr rfl)⟩
theorem o7 {ss:List (List Nat)}{e:Bool}{v rest:List Nat}(h:TlW ss e v)(hr:Stops frS rest):Stops frS (v++rest):=by
 cases h with
 |stop=>exact hr
 |ends=>exact ca ⟨by decide,jL,by decide⟩
 |more _ _ _=>exact ca ⟨by decide,jL,by decide⟩
theorem o8 {ss:List (List Nat)}{e:Bool}{v rest:List Nat}(h:StpW ss e v)(hr:rest.head?≠some 47):(v++rest).head?≠some 47:=by
 cases h with
 |none=>exact hr
 |some hw hs _=>
  obtain⟨c,r,rfl,hc⟩:=o6 hw hs;intro z;have e:c=47:=Option.some.inj z;subst e;rcases hc with z|z|z
  ·cases z
  ·exact jL z
  ·cases z
theorem AT {ss:List (List Nat)}{e:Bool}{v:List Nat}(h:TlW ss e v):ss.length≤v.length:=by
 induction h with
 |stop=>exact Nat.le_refl _
 |ends=>exact Nat.zero_le _
 |more _ _ _ ih=>simp only[length_cons,length_append];lia
theorem AU {ss:List (List Nat)}{e:Bool}{v:List Nat}(h:StpW ss e v):ss.length≤v.length:=by
 cases h with
 |none=>exact Nat.le_refl _
 |some hw hs ht=>obtain⟨c,r,rfl,_⟩:=o6 hw hs;have:=AT ht;simp only[length_cons,length_append];lia
inductive PrsW:List (List Nat×Option (List Nat))->List Nat->Prop
 |nil:PrsW [] []
 |cons {n w v:List Nat}{o:Option (List Nat)}{ps:List (List Nat×Option (List Nat))}{r:List Nat}:WrT frQ n w->n≠[]->ValW o v->PrsW ps r->PrsW ((n,o)::ps) (38::(w++(v++r)))
noncomputable def QueW (q:Option (List (List Nat×Option (List Nat))))(w:List Nat):Prop:=match q with
 |none=>w=[]
 |some []=>w=[63]
 |some ((n,o)::ps)=>∃a v r,w=63::(a++(v++r))∧WrT frQ n a∧n≠[]∧ValW o v∧PrsW ps r
theorem jM:(35:Nat)∉frQ∧(38:Nat)∉frQ∧(61:Nat)∉frQ:=by decide +kernel
theorem jN {ps:List (List Nat×Option (List Nat))}{r rest:List Nat}(h:PrsW ps r)(hr:rest=[]∨∃x,rest=35::x):Stops frQ (r++rest)∧(r++rest).head?≠some 61:=by
 cases h with
 |nil=>
  rcases hr with rfl|⟨x,rfl⟩
  ·exact⟨jK,by simp⟩
  ·exact⟨ca ⟨by decide,jM.1,by decide⟩,by simp⟩
 |cons _ _ _ _=>exact⟨ca ⟨by decide,jM.2.1,by decide⟩,by simp⟩
theorem o9 {o:Option (List Nat)}{v r:List Nat}(h:ValW o v)(hr:Stops frQ r):Stops frQ (v++r):=by
 cases o with
 |none=>have h:v=[]:=h;subst h;exact hr
 |some s=>obtain⟨x,rfl,_⟩:=h;exact ca ⟨by decide,jM.2.2,by decide⟩
theorem AV {ps:List (List Nat×Option (List Nat))}{r:List Nat}(h:PrsW ps r):ps.length≤r.length:=by
 induction h with
 |nil=>exact Nat.le_refl _
 |cons _ _ _ _ ih=>simp only[length_cons,length_append];lia
theorem Cur.toT {H H':Hp}{C p:Addr}{t:List Nat}{i:Nat}(h:Cur H C p t i)(s:SameBut p H H'):SameT H H':=fun b xs e=>s b _ (by obtain⟨dx,hp⟩:=h;exact ib e hp (by intro z;cases z)) e
noncomputable def pD (a:List Nat×Option (List Nat)):PyData:=.tuple [st a.1,oD a.2]
noncomputable def PrL (H:Hp)(vs:List V)(dn:List (List Nat×Option (List Nat))):Prop:=vs.length=dn.length∧∀(i:Nat) (a:List Nat×Option (List Nat)) (y:V),dn[i]?=some a->vs[i]?=some y->IsT H (pD a) y
theorem PrL.mono {H H':Hp}{vs:List V}{dn:List (List Nat×Option (List Nat))}(h:PrL H vs dn)(s:SameT H H'):PrL H' vs dn:=⟨h.1,fun i a y e1 e2=>(h.2 i a y e1 e2).mono s⟩
theorem PrL.snoc {H:Hp}{vs:List V}{dn:List (List Nat×Option (List Nat))}{a:List Nat×Option (List Nat)}{y:V}(h:PrL H vs dn)(hy:IsT H (pD a) y):PrL H (vs++[y]) (dn++[a]):=by
 refine⟨by simp[h.1],fun i b z e1 e2=>?_⟩;by_cases hi:i < dn.length
 ·rw[List.getElem?_append_left hi] at e1;rw[List.getElem?_append_left (by rw[h.1];exact hi)] at e2;exact h.2 i b z e1 e2
 ·have:=(List.getElem?_eq_some_iff.mp e1).1;rw[length_append,length_singleton] at this;have e:i=dn.length:=by lia
  subst e;rw[List.getElem?_append_right (Nat.le_refl _),Nat.sub_self] at e1;rw[<- h.1,List.getElem?_append_right (Nat.le_refl _),Nat.sub_self] at e2;cases e1;cases e2;exact hy
theorem oA {H:Hp}{α:Type}{g:α->PyData}:∀{l:List α}{ys:List V},ys.length=l.length->(∀(i:Nat) (a:α) (y:V),l[i]?=some a->ys[i]?=some y->IsT H (g a) y)->IsTAll H (l.map g) ys
 |[],[],_,_=>.nil
 |[],_::_,h,_=>by simp at h
 |_::_,[],h,_=>by simp at h
 |a::l,y::ys,h,k=>.cons (k 0 a y rfl rfl) (oA (by simpa using h) fun i b z e1 e2=>k (i+1) b z (by simpa using e1) (by simpa using e2))
noncomputable def fgS:List Nat:=(Str.ofString "0123456789").cps.toList
theorem gN {c:Nat}:c∈fgS↔48≤c∧c≤57:=by rw[show fgS=List.range' 48 10 by decide +kernel,List.mem_range'_1];lia
noncomputable def valD (ds:List Nat):Nat:=ds.foldl (fun a c=>a * 10+(c - 48)) 0
theorem cb (ds:List Nat)(c:Nat):valD (ds++[c])=valD ds * 10+(c - 48):=by unfold valD;rw[List.foldl_append];rfl
theorem gO:∀(es ds:List Nat),valD ds≤valD (ds++es)
 |[],ds=>by rw[append_nil];exact Nat.le_refl _
 |c::es,ds=>by have h:=gO es (ds++[c]);rw[cb,append_assoc] at h;exact Nat.le_trans (by lia) h
theorem oB {ds:List Nat}{c:Nat}{r:List Nat}(h:ds=c::r)(hc:49≤c):0 < valD ds:=by
 have:=gO r [c];rw[h];have e:valD [c]=c - 48:=by unfold valD;simp
 show 0 < valD ([c]++r);lia
noncomputable def DooW (o:Option Int)(w:List Nat):Prop:=match o with
 |none=>w=[]
 |some n=>∃ds,w=58::ds∧ds≠[]∧(∀c∈ds,48≤c∧c≤57)∧(valD ds:Int)=n∧valD ds≤65535∧(ds=[48]∨ds.head?≠some 48)
theorem oC:∀c,c < 58->48≤c->PySem.intText? ⟨#[c]⟩=some (((c - 48:Nat)):Int):=by decide +kernel
theorem AW {s r:List Nat}(h:∀c∈s,c≠58):ahead (s++58::r)=s:=by unfold ahead;rw[List.takeWhile_append_of_pos (fun c hc=>decide_eq_true (h c hc)),List.takeWhile_cons_of_neg (by simp),append_nil]
theorem oE (t:List Nat):∃r,t=ahead t++r:=⟨t.dropWhile fun c=>decide (c≠58),(List.takeWhile_append_dropWhile (p:=fun c=>decide (c≠58))).symm⟩
theorem AX (t:List Nat):(ahead t).length≤t.length:=by obtain⟨r,h⟩:=oE t;have:=congrArg List.length h;rw[length_append] at this;lia
theorem oF (t:List Nat):t.take (ahead t++[58]).length=ahead t++[58]↔t[(ahead t).length]?=some 58:=by
 obtain⟨r,h⟩:=oE t;generalize ahead t=a at h;subst h;rw[length_append,length_singleton,List.getElem?_append_right (Nat.le_refl _),Nat.sub_self,List.take_append];rw[take_of_length_le (by lia),show a.length+1 - a.length=1 by lia];constructor
 ·intro e;have e:=List.append_cancel_left e;cases r with
  |nil=>simp at e
  |cons c r=>simp at e;rw[e];rfl
 ·intro e;cases r with
  |nil=>simp at e
  |cons c r=>simp at e;rw[e];rfl
noncomputable def schM (t:List Nat):List Nat:=if ahead t≠[]∧schD (.str ⟨(ahead t).toArray⟩)=true∧t[(ahead t).length]?=some 58 then ahead t else []
noncomputable def schP (t:List Nat):Nat:=(schT (schM t)).length
theorem oG {t:List Nat}(h1:ahead t≠[])(h2:schD (.str ⟨(ahead t).toArray⟩)=true)(h3:t[(ahead t).length]?=some 58):schM t=ahead t∧schP t=(ahead t++[58]).length:=by
 have e:schM t=ahead t:=by unfold schM;rw[if_pos ⟨h1,h2,h3⟩]
 exact⟨e,by unfold schP schT;rw[e,if_neg h1]⟩
theorem gP {t:List Nat}(h:¬ (ahead t≠[]∧schD (.str ⟨(ahead t).toArray⟩)=true∧t[(ahead t).length]?=some 58)):schM t=[]∧schP t=0:=by
 have e:schM t=[]:=by unfold schM;rw[if_neg h]
 exact⟨e,by unfold schP schT;rw[e,if_pos rfl];rfl⟩
noncomputable def RdW (x:Ad)(t:List Nat):Prop:=∃h d w q m,t=schT x.scheme++(h++(d++((if x.rooted then [47] else [])++(w++(q++m)))))∧schM t=x.scheme∧HouW x.house h∧DooW x.door d∧StpW x.steps x.ends w∧QueW x.quest q∧MarW x.mark m
end Wm
namespace L2
open PySem
theorem IsKAll.length {K:W.Frag}{H:Hp}:∀{ds:List PyData}{xs:List V},IsKAll K H ds xs->xs.length=ds.length
 |_,_,.nil=>rfl
 |_,_,.cons _ r=>by simp[IsKAll.length r]
theorem oH {K:W.Frag}{H:Hp}:∀{ds:List PyData}{xs:List V}{i:Nat}{d:PyData}{x:V},IsKAll K H ds xs->ds[i]?=some d->xs[i]?=some x->IsK K H d x
 |_,_,0,_,_,.cons h _,e1,e2=>by cases e1;cases e2;exact h
 |_,_,i+1,_,_,.cons _ r,e1,e2=>oH r (i:=i) (by simpa using e1) (by simpa using e2)
 |_,_,0,_,_,.nil,e1,_=>by cases e1
 |_,_,_+1,_,_,.nil,e1,_=>by cases e1
end L2
namespace Wm
open PySem L2
theorem jO:∀n:Nat,valD ((Nat.toDigits 10 n).map Char.toNat)=n∧(Nat.toDigits 10 n).map Char.toNat≠[]∧(((Nat.toDigits 10 n).map Char.toNat).head?=some 48->n=0)
 |n=>by
  by_cases h:n < 10
  ·rw[Nat.toDigits_of_lt_base h];have key:∀n,n < 10->valD ([Nat.digitChar n].map Char.toNat)=n∧([Nat.digitChar n].map Char.toNat).head?=some (48+n):=by decide +kernel
   obtain⟨k1,k2⟩:=key n h;refine⟨k1,by simp,fun z=>?_⟩;rw[k2] at z;injection z with z;lia
  ·have h':10≤n:=by lia
   rw[Nat.toDigits_of_base_le (by decide) h',map_append];obtain⟨i1,i2,i3⟩:=jO (n / 10);have key:∀n,n < 10->([Nat.digitChar n].map Char.toNat)=[48+n]:=by decide +kernel
   rw[key (n % 10) (by lia),cb,i1];refine⟨by lia,by simp,fun z=>?_⟩;cases hh:(Nat.toDigits 10 (n / 10)).map Char.toNat with
   |nil=>exact absurd hh i2
   |cons c r=>rw[hh] at z i3;have:=i3 z;lia
theorem AY {o:Option Int}(h:∀i,o=some i->0≤i∧i≤65535):DooW o (dooT o):=by
 cases o with
 |none=>rfl
 |some i=>
  obtain⟨h1,h2⟩:=h i rfl;obtain⟨n,rfl⟩:=Int.eq_ofNat_of_zero_le h1;have e:dg (n:Int)=(Nat.toDigits 10 n).map Char.toNat:=by unfold dg;rw[PySem.W.KIN.signs_num]
  obtain⟨i1,i2,i3⟩:=jO n;refine⟨dg n,rfl,by rw[e];exact i2,gB h1,by rw[e,i1],by rw[e,i1];lia,?_⟩;by_cases hz:(dg n).head?=some 48
  ·rw[e] at hz;have:=i3 hz;subst this;exact .inl (by rw[e];decide)
  ·exact .inr hz
theorem AZ {o:Option (List Nat)}(h:∀l,o=some l->(0 < l.length∧l.length≤60)∧∀c∈l,isSg c=true):HouW o (houT o):=by
 cases o with
 |none=>rfl
 |some l=>obtain⟨⟨h1,h2⟩,h3⟩:=h l rfl;exact⟨wr l,rfl,bj h3,(fun e=>by rw[e] at h1;cases h1),h2⟩
theorem B0 {o:Option (List Nat)}(h:∀l,o=some l->∀c∈l,isSg c=true):MarW o (oT 35 o):=by
 cases o with
 |none=>rfl
 |some l=>exact⟨wr l,rfl,bj (h l rfl)⟩
theorem oI {o:Option (List Nat)}(h:∀l,o=some l->∀c∈l,isSg c=true):ValW o (oT 61 o):=by
 cases o with
 |none=>rfl
 |some l=>exact⟨wr l,rfl,bj (h l rfl)⟩
theorem oJ {e:Bool}:∀{ss:List (List Nat)},(∀s∈ss,StepOk s)->TlW ss e (tlT 47 (ss.map wr)++if e then [47] else [])
 |[],_=>by cases e <;> simp[tlT] <;> constructor
 |s::ss,h=>by have h1:=h s (mem_cons_self ..);have:=TlW.more (bj (fr:=frS) h1.2) (fun z=>by rw[z] at h1;cases h1.1) (oJ (e:=e) (ss:=ss) fun t ht=>h t (mem_cons_of_mem _ ht));simpa [tlT] using this
theorem B1 {ss:List (List Nat)}{e:Bool}(h:∀s∈ss,StepOk s):StpW ss e (stpT ss e):=by
 cases ss with
 |nil=>rw[zn];exact .none
 |cons s ss=>have h1:=h s (mem_cons_self ..);have:=StpW.some (bj (fr:=frS) h1.2) (fun z=>by rw[z] at h1;cases h1.1) (oJ (e:=e) (ss:=ss) fun t ht=>h t (mem_cons_of_mem _ ht));unfold stpT;simpa [joinT] using this
theorem oK:∀{ps:List (List Nat×Option (List Nat))},(∀p∈ps,PairOk p)->PrsW ps (tlT 38 (ps.map pairT))
 |[],_=>.nil
 | (n,o)::ps,h=>by have h1:=h (n,o) (mem_cons_self ..);have:=PrsW.cons (bj (fr:=frQ) h1.1.2) (fun z=>by have:=h1.1.1;rw[z] at this;cases this) (oI h1.2) (oK (ps:=ps) fun t ht=>h t (mem_cons_of_mem _ ht));simpa [tlT,pairT] using this
theorem B2 {q:Option (List (List Nat×Option (List Nat)))}(h:∀ps,q=some ps->∀p∈ps,PairOk p):QueW q (queT q):=by
 cases q with
 |none=>rfl
 |some ps=>
  cases ps with
  |nil=>rfl
  |cons p ps=>obtain⟨n,o⟩:=p;have h1:=h _ rfl (n,o) (mem_cons_self ..);exact⟨wr n,oT 61 o,tlT 38 (ps.map pairT),by simp[queT,joinT,pairT],bj h1.1.2,(fun z=>by have:=h1.1.1;rw[z] at this;cases this),oI h1.2,oK fun t ht=>h _ rfl t (mem_cons_of_mem _ ht)⟩
theorem oM {P:Nat->Prop}(h1:P 63)(h2:P 38)(h3:P 61)(hw:∀c,wch c=true->P c){q:Option (List (List Nat×Option (List Nat)))}(h:∀ps,q=some ps->∀p∈ps,PairOk p):∀c∈queT q,P c:=by
 intro c hc;cases q with
 |none=>cases hc
 |some ps=>
  simp only[queT,mem_cons] at hc;rcases hc with rfl|hc
  ·exact h1
  ·refine nH h2 (fun s hs d hd=>?_) c hc;obtain⟨p,hp,rfl⟩:=mem_map.mp hs;exact zm h3 hw (h ps rfl p hp) d hd
theorem Ad.Wf.all {P:Nat->Prop}{x:Ad}(h:x.Wf)(h1:P 47)(h2:P 58)(h3:P 63)(h4:P 38)(h5:P 61)(h6:P 35)(hw:∀c,wch c=true->P c):∀c∈x.shw,P c:=by
 intro c hc;rw[Ad.shw_eq] at hc;rcases mem_append.mp hc with hc|hc
 ·rcases mem_append.mp hc with hc|hc
  ·exact h.pre_all h1 h2 hw c hc
  ·exact oM h3 h4 h5 hw h.que c hc
 ·exact jB h6 hw h.mar c hc
theorem oN {c:Nat}(h:wch c=true):c < 128:=by simp only[wch,isPl,Bool.or_eq_true,decide_eq_true_eq] at h;lia
theorem B3 {x:Ad}(h:x.Wf):∀c∈x.shw,c < 128:=h.all (by decide) (by decide) (by decide) (by decide) (by decide) (by decide) fun _=>oN
theorem B4 {x:Ad}(h:x.Wf):schM x.shw=x.scheme:=by
 by_cases hs:x.scheme=[]
 ·rw[hs];refine (gP ?_).1;rintro⟨_,z2,z3⟩;cases hh:x.house with
  |some l=>
   obtain⟨r,hr⟩:∃r,x.shw=47::r:=by unfold Ad.shw;rw[hs,hh];exact⟨_,rfl⟩
   rw[hr] at z2;have:(ahead (47::r))=47::ahead r:=by unfold ahead;rw[List.takeWhile_cons_of_pos (by decide)]
   rw[this] at z2;simp[schD,isLet] at z2
  |none=>
   have hd:x.door=none:=by
    cases hd:x.door with
    |none=>rfl
    |some i=>exact absurd hh (h.doo i hd).2
   have hm:(58:Nat)∈x.shw:=mem_of_getElem? z3;unfold Ad.shw at hm;rw[hs,hh,hd] at hm;simp only[schT,if_true,houT,dooT,nil_append] at hm;have ha:∀c,c∈x.wayT++(queT x.quest++oT 35 x.mark)->c≠58:=by
    intro c hc;rcases mem_append.mp hc with hc|hc
    ·exact nJ (P:=fun c=>c≠58) (by decide) (fun c hc=>(gD hc).2.2.2.1) h.stp c hc
    ·rcases mem_append.mp hc with hc|hc
     ·exact oM (P:=fun c=>c≠58) (by decide) (by decide) (by decide) (fun c hc=>(gD hc).2.2.2.1) h.que c hc
     ·exact jB (P:=fun c=>c≠58) (by decide) (fun c hc=>(gD hc).2.2.2.1) h.mar c hc
   exact ha 58 hm rfl
 ·have hc:∀c∈x.scheme,c≠58:=fun c hc=>(gD (nD (h.sch.2.1 c hc))).2.2.2.1;obtain⟨r,hr⟩:∃r,x.shw=x.scheme++58::r:=by
   unfold Ad.shw schT;rw[if_neg hs];exact⟨_,by rw[append_assoc];rfl⟩
  have ha:ahead x.shw=x.scheme:=by rw[hr];exact AW hc
  have:=(oG (t:=x.shw) (by rw[ha];exact hs) (by
   rw[ha];simp only[schD,Bool.and_eq_true,all_eq_true,decide_eq_true_eq];exact⟨⟨⟨fun c hc=>j8 (h.sch.2.1 c hc),by show x.scheme.length≤8;exact h.sch.1⟩,h.sch.2.2⟩,h.sch.2.1⟩) (by
   rw[ha,hr,List.getElem?_append_right (Nat.le_refl _),Nat.sub_self];rfl)).1
  rw[this,ha]
theorem B5 {x:Ad}(h:x.Wf):RdW x x.shw:=
 ⟨houT x.house,dooT x.door,stpT x.steps x.ends,queT x.quest,oT 35 x.mark,by unfold Ad.shw Ad.wayT;rw[nI,append_assoc],B4 h,AZ h.hou,AY fun i e=>(h.doo i e).1,B1 h.stp,B2 h.que,B0 h.mar⟩
noncomputable def GoodsT (n:Nat)(H:Hp)(vs:List V):Prop:=∀v∈vs,∃x:Ad,(x.Wf∧x.Tiny∧x.steps.length≤n)∧IsT H x.data v
theorem GoodsT.cons {n:Nat}{H:Hp}{v:V}{vs:List V}{x:Ad}(h1:x.Wf∧x.Tiny∧x.steps.length≤n)(h3:IsT H x.data v)(h:GoodsT n H vs):GoodsT n H (v::vs):=fun u hu=>by
 rcases mem_cons.mp hu with rfl|hu
 ·exact⟨x,h1,h3⟩
 ·exact h u hu
theorem Ad.Tiny.local {x:Ad}(h:x.Tiny):({x with scheme:=[],house:=none,door:=none}:Ad).Tiny:=⟨h.stp,h.que,h.mar,fun l e=>by cases e⟩
theorem B6 {fr s w:List Nat}(hf:∀c∈fr,c < 128)(h:WrT fr s w):∀c∈w,c < 128:=by
 induction h with
 |nil=>intro c hc;cases hc
 |self a b _ ih=>
  intro d hd;rcases mem_cons.mp hd with rfl|hd
  ·rcases a with a|a
   ·exact oN (by unfold wch;rw[a];rfl)
   ·exact hf _ a
  ·exact ih d hd
 |pair a _ ih=>
  intro d hd;obtain⟨_,h1,h2,_⟩:=jI a;simp only[mem_cons] at hd;rcases hd with rfl|rfl|rfl|hd
  ·decide
  ·exact h1
  ·exact h2
  ·exact ih d hd
end Wm
namespace L2
open PySem
theorem oO {K:W.Frag}{p a:Addr}{fv:St}{te:TE}{Q:VK}{H1:Hp}{xs:List V}(J:Nat->List V->Hp->Prop)(hlen:xs.length≤sizeLine)(h0:J 0 [] (upd H1 p (.lst [])))(hS:∀i ys H2,J i ys H2->SqT K H2 a xs)
  (he:∀(i:Nat) (x:V) (ys:List V) (H2:Hp) (T:VK),xs[i]?=some x->J i ys H2->H2 p=some (.lst ys)->(∀y H3,H3 p=some (.lst ys)->J (i+1) (ys++[y]) (upd H3 p (.lst (ys++[y])))->T y H3)->te (some x::fv) H2 T)
  (hQ:∀ys H2,J xs.length ys H2->H2 p=some (.lst ys)->Q (.ref p) H2):CompI (Itt K a) p fv tYes te Q H1:=by
 refine⟨fun i m ys H2=>m=xs.length - i∧i≤xs.length∧ys.length=i∧H2 p=some (.lst ys)∧J i ys H2,⟨xs.length,by simp,Nat.zero_le _,rfl,aL,h0⟩,?_⟩;rintro i m ys H2 ⟨rfl,hi,ld,ad,hJ⟩;refine⟨ad,?_⟩;have q:=hS _ _ _ hJ;by_cases dl:i < xs.length
 ·refine .inr ⟨⟨xs,xs[i],q,by simp[dl]⟩,by lia,fun x H3 y=>?_⟩;obtain⟨rfl,y⟩:=y;have hc:=y xs q;unfold tYes;dsimp only;rw[if_pos rfl];exact he i x ys _ _ hc hJ ad fun y H5 mt BT=>⟨mt,xs.length - (i+1),by lia,rfl,dl,by rw[length_append,ld];rfl,aL,BT⟩
 ·have e:i=xs.length:=by lia
  subst e;exact .inl ⟨⟨xs,q,Nat.le_refl _⟩,hQ ys H2 hJ ad⟩
end L2
namespace Wm
open PySem L2
noncomputable def PrW (p:List Nat×Option (List Nat))(w:List Nat):Prop:=∃a v,w=a++v∧WrT frQ p.1 a∧ValW p.2 v
inductive PrWs:List (List Nat×Option (List Nat))->List (List Nat)->Prop
 |nil:PrWs [] []
 |cons {p:List Nat×Option (List Nat)}{w:List Nat}{ps:List (List Nat×Option (List Nat))}{ws:List (List Nat)}:PrW p w->PrWs ps ws->PrWs (p::ps) (w::ws)
inductive StWs:List (List Nat)->List (List Nat)->Prop
 |nil:StWs [] []
 |cons {s w:List Nat}{ss ws:List (List Nat)}:WrT frS s w->StWs ss ws->StWs (s::ss) (w::ws)
end Wm
namespace L2
open PySem PySem.Spec PyProof.Rows
section
variable {X:Cx}{pins:List (Addr×Obj)}{σ:St}{H:Hp}{s:Shared}{h':Heap}
theorem Inv.walked {t':Nat}{wr:List Addr}{T:Addr}{o:HO}(I:Inv X pins σ H s)(hf:∀b∈wr,FpOk X pins H b)(k:∀b u,b∉wr->s.heap.get? b=some u->h'.get? b=some u)(hT:s.heap.objs.size≤T)
  (new:ObjOk X.prog X.w (upd H T o) h' T o):Inv X pins σ (upd H T o) {s with heap:=h',toks:=t' }:=by
 have hn:H T=none:=I.hok.fresh hT;have nw:∀b u,H b=some u->b∉wr:=fun b u e z=>by rw[(hf b z).1] at e;cases e
 refine I.step (g':=s.gens) (d':=s.drawn) (ch:=wr) (fun b hb=>?_) (fun b u _ _ hc e _=>k b u hc e) (fun b u _ _ hc e _=>⟨u.slots,k b u hc e⟩) (fun b u _ q n=>?_)
  (fun b u hc e=>⟨u,k b u hc e⟩) (fun b xs q=>?_) (fun b u xs q=>?_) (fun b ps q=>?_) (fun m hm=>?_) (fun b u e=>?_) I.bare
 ·obtain⟨f0,f1,f2,f3,f4,f5⟩:=hf b hb;exact⟨f3,f1,f4,f5⟩
 ·rw[aN (Nat.ne_of_lt (Nat.lt_of_lt_of_le (Heap.lt_size q) hT))];exact n
 ·rw[aN (aY q hn)];exact q
 ·rw[aN (aY q hn)];exact q
 ·exact⟨#[],by rw[aN (aY q hn),q];simp⟩
 ·obtain⟨u,es,ep,ho,r⟩:=hm;refine⟨u,es,ep,k _ u (fun z=>?_) ho,r⟩;exact (hf _ z).2.1 rfl
 ·by_cases hb:b=T
  ·subst hb;rw[aL] at e;cases e;exact new
  ·rw[aN hb] at e;refine (I.hok b u e).stay (fun c v hc q=>k c v ?_ q) (fun c q=>by rw[aN (aY q hn)];exact q) fun c xs q=>by rw[aN (aY q hn)];exact q
   rcases hc with z|z
   ·rw[z];exact nw b u e
   ·exact nw c _ z
theorem Inv.turnedL {t':Nat}{wr:List Addr}(I:Inv X pins σ H s)(hf:∀b∈wr,FpOk X pins H b)(k:∀b u,b∉wr->s.heap.get? b=some u->h'.get? b=some u):Inv X pins σ H {s with heap:=h',toks:=t' }:=by
 have nw:∀b u,H b=some u->b∉wr:=fun b u e z=>by rw[(hf b z).1] at e;cases e
 refine I.step (g':=s.gens) (d':=s.drawn) (ch:=wr) (fun b hb=>?_) (fun b u _ _ hc e _=>k b u hc e) (fun b u _ _ hc e _=>⟨u.slots,k b u hc e⟩) (fun _ _ _ _ n=>n)
  (fun b u hc e=>⟨u,k b u hc e⟩) (fun _ _ e=>e) (fun _ _ _ e=>e) (fun b ps e=>⟨#[],by rw[e];simp⟩) (fun m hm=>?_) (fun b u e=>?_) I.bare
 ·obtain⟨f0,f1,f2,f3,f4,f5⟩:=hf b hb;exact⟨f3,f1,f4,f5⟩
 ·obtain⟨u,es,ep,ho,r⟩:=hm;refine⟨u,es,ep,k _ u (fun z=>?_) ho,r⟩;exact (hf _ z).2.1 rfl
 ·refine (I.hok b u e).stay (fun c v hc q=>k c v ?_ q) (fun _ q=>q) fun _ _ q=>q;rcases hc with z|z
  ·rw[z];exact nw b u e
  ·exact nw c _ z
end
noncomputable def ItW (n:Nat)(ok:Hp->Prop)(pt:Nat->Hp->List V->Prop):It:=
 ⟨fun i H=>i < n∧ok H,fun i H x H'=>∃T xs,x=.ref T∧H T=none∧H'=upd H T (.tup xs)∧pt i H xs,fun i H=>i=n∧ok H⟩
theorem jP {P:Program}{w:World}{K:W.Frag}{elts:List Expr}{k:Nat}{pos:Pos}{I:Addr}{fp wr fq:List Addr}{n:Nat}{α:Type}{Pt:α->Nat->Array Value->Prop}{Sn:α->Nat->Heap->Prop}{Mid:α->Nat->Addr->Heap->Prop}{tn:Nat->Heap->Prop}{ok:Hp->Prop}{pt:Nat->Hp->List V->Prop}
  (hI:I∈fq) (hq:∀b∈wr,b∈fq) (hW:∀(A:Around) (a:α),A.handled=none->WalksT P w A I fp wr n (Pt a) (Sn a) (Mid a))
  (hself:∀(A:Around) (i:Nat) (s:Shared) (Q:Value->Shared->Prop) (E:Value->Shared->Prop),tn i s.heap->Q (.ref I) s->wpAny (model P w) A (pyIter (.ref I)) Q E s)
  (hobj:∀i h,tn i h->∀b∈fq,∃o,h.get? b=some o∧∀v,o.data≠.cell v)
  (hkeep:∀i h h',tn i h->(∀b∈fq,∀o,h.get? b=some o->h'.get? b=some o)->tn i h')
  (hin:∀(X:Cx),X.prog=P->X.w=w->X.K=K->∀(i:Nat) (pins:List (Addr×Obj)) (s:Shared) (σ:St) (H:Hp),Inv X pins σ H s->(∀b∈fq,FpOk X pins H b)->tn i s.heap->ok H->∃a,Sn a i s.heap∧∀vals,Pt a i vals->∃xs,xs.length≤sizeLine∧Vals xs vals.toList∧pt i H xs)
  (hout:∀a i h,Sn a i h->tn i h) :
  Turn P w K (.Tuple elts k pos) (ItW n ok pt) fq I tn where
 mem:=hI
 obj:=hobj
 keep:=hkeep
 item:=by
  intro X hP hw hK hc i pins s σ H E J hf st hg;obtain⟨hi,ld⟩:=hg;have mt:∀b∈wr,FpOk X pins H b:=fun b hb=>hf b (hq b hb);obtain⟨a,dl,hv⟩:=hin X hP hw hK i pins s σ H J hf st ld;obtain⟨FH,FG,Fy,Fx,Fr,Fn,FF⟩:=hW X.A a (J.ok.hd hc);refine Fy i s _ E hi dl fun T vals h1 tk FL hT BT ad hk=>?_;refine⟨.ref T,rfl,?_⟩;refine Fx elts k pos i T _ _ E ad fun h2 Fz Cl=>?_;obtain⟨xs,FA,FB,FC⟩:=hv vals FL;have FI:T∉wr:=Fr i T h1 ad;have FJ:H T=none:=J.hok.fresh hT;have FD:∀b u,b∉wr->s.heap.get? b=some u->h2.get? b=some u:=fun b u hb e=>Cl b u hb (hk b u hb e);obtain⟨o,ho,FE,m,hd⟩:=BT;have FK:IsTup h2 T vals.toList.toArray:=by refine⟨o,Cl T o FI ho,FE,m,?_⟩;rw[hd]
  refine⟨.ref T,upd H T (.tup xs),J.walked (t':=tk) mt FD hT ⟨FA,vals.toList,FB,FK⟩,rfl,⟨T,xs,rfl,FJ,rfl,FC⟩,hout a _ _ Fz,fun b hb=>?_⟩;have:b≠T:=fun z=>by obtain⟨o,e,_⟩:=hobj i _ st b hb;exact absurd (Heap.lt_size e) (by rw[z];exact Nat.not_lt.mpr hT)
  rw[aN this];exact (hf b hb).1
 done:=by intro X hP hw hK hc i pins s σ H E J hf st hg;obtain⟨hi,ld⟩:=hg;subst hi;have mt:∀b∈wr,FpOk X pins H b:=fun b hb=>hf b (hq b hb);obtain⟨a,dl,_⟩:=hin X hP hw hK i pins s σ H J hf st ld;obtain⟨FH,FG,Fy,Fx,Fr,Fn,FF⟩:=hW X.A a (J.ok.hd hc);exact Fn s _ E dl fun h1 tk hk=>⟨rfl,J.turnedL mt hk⟩
 self:=hself
section
variable {σ:St}{H:Hp}{D:Ends}{g:TG}{tb:TS}
theorem oP {n:Nat}{ok:Hp->Prop}{pt:Nat->Hp->List V->Prop}(Pv:Nat->St->Hp->Prop)(h0:Pv 0 σ H)(hl:∀i σ H,i≤n->Pv i σ H->ok H)
  (hs:∀i σ H T xs,i < n->Pv i σ H->H T=none->pt i H xs->g (.ref T) σ (upd H T (.tup xs)) fun σ2 H2=>tb {D with nx:=Pv (i+1),ct:=Pv (i+1),bk:=D.nx} σ2 H2) (hd:∀σ H,Pv n σ H->D.nx σ H):LoopI (ItW n ok pt) g tb D σ H:=by
 refine⟨fun i m σ H=>m=n - i∧i≤n∧Pv i σ H,⟨n,by simp,Nat.zero_le _,h0⟩,?_⟩;rintro i m σ H ⟨rfl,hi,p⟩;have hq:=hl i σ H hi p;by_cases ad:i < n
 ·refine .inr ⟨⟨ad,hq⟩,Pv (i+1),fun σ' H' p'=>⟨n - (i+1),by lia,rfl,ad,p'⟩,fun x H' y=>?_⟩;obtain⟨T,xs,rfl,hT,rfl,hp⟩:=y;exact hs i σ _ T xs ad p hT hp
 ·have e:i=n:=by lia
  subst e;exact .inl ⟨⟨rfl,hq⟩,hd σ H p⟩
end
section
variable {prog:Program}{w:World}{A:Around}{E:Value->Shared->Prop}{s:Shared}
theorem B7 {it a:Addr}{i:Nat}{its:Array Value}{x:Value}{Q:Value->Shared->Prop}(hi:s.heap.IsTupleIter it a i)(ha:s.heap.IsTuple a its)(hx:its[i]?=some x)
  (q:∀h',h'.IsTupleIter it a (i+1)->Heap.SameBut it s.heap h'->Q x {s with heap:=h' }):wpAny (model prog w) A (Builtin.SmallTypes.nextOf (.ref it)) Q E s:=by
 obtain⟨u,hu,ld,ad⟩:=id hi;obtain⟨v,hv,_,m,dl⟩:=ha;unfold Builtin.SmallTypes.nextOf;refine wpAny_bind (wpAny_callSpecial?_slot (name:=Str.ofString "__next__") hi.typeIs F.slot_tuple_iterator_next (wpAny_call_entry F.slot_tuple_iterator_next hi.typeIs F.entry_tuple_iterator_next ?_ (F.args_tuple_iterator_next_1 _)));show wpAny _ _ (field (.ref it) 0 >>= _) _ _ _;refine wpAny_bind (wpAny_field hu ad (x:=.ref a) rfl ?_);show wpAny _ _ (if (Value.ref a == Value.none)=true then _ else _) _ _ _;rw[if_neg (by exact Bool.false_ne_true)];show wpAny _ _ (field (.ref it) 1 >>= _) _ _ _;refine wpAny_bind (wpAny_field hu ad (x:=.int i 0) rfl ?_);show wpAny _ _ (seqItems? (.ref a) >>= _) _ _ _;refine wpAny_bind (wpAny_seqItems hv dl ?_);simp only[Int.toNat_natCast,hx];refine wpAny_bind (wpAny_setField hu ad (by simp) (wpAny_pure ⟨x,rfl,wpAny_pure (q _ ⟨_,Heap.get?_update_self _ hu (Obj.isFreed_of_fields (Obj.data_mapFields ad _)),(Obj.cls_mapFields ..).trans ld,?_⟩ (Heap.SameBut.update ..))⟩));rw[Obj.data_mapFields ad];simp[rawInt]
theorem B8 {it a:Addr}{i:Nat}{its:Array Value}{Q:Value->Shared->Prop}(hh:A.handled=none)(hi:s.heap.IsTupleIter it a i)(ha:s.heap.IsTuple a its)(hx:its[i]?=none)
  (q:∀h' e,Heap.ExtBut it s.heap h'->(∃o,h'.get? e=some o∧o.cls=.type "StopIteration")->E (.ref e) {s with heap:=h' }):wpAny (model prog w) A (Builtin.SmallTypes.nextOf (.ref it)) Q E s:=by
 obtain⟨u,hu,ld,ad⟩:=id hi;obtain⟨v,hv,_,m,dl⟩:=ha;unfold Builtin.SmallTypes.nextOf;refine wpAny_bind (wpAny_callSpecial?_slot (name:=Str.ofString "__next__") hi.typeIs F.slot_tuple_iterator_next (wpAny_call_entry F.slot_tuple_iterator_next hi.typeIs F.entry_tuple_iterator_next ?_ (F.args_tuple_iterator_next_1 _)));show wpAny _ _ (field (.ref it) 0 >>= _) _ _ _;refine wpAny_bind (wpAny_field hu ad (x:=.ref a) rfl ?_);show wpAny _ _ (if (Value.ref a == Value.none)=true then _ else _) _ _ _;rw[if_neg (by exact Bool.false_ne_true)];show wpAny _ _ (field (.ref it) 1 >>= _) _ _ _;refine wpAny_bind (wpAny_field hu ad (x:=.int i 0) rfl ?_);show wpAny _ _ (seqItems? (.ref a) >>= _) _ _ _;refine wpAny_bind (wpAny_seqItems hv dl ?_);simp only[Int.toNat_natCast,hx];refine wpAny_bind (wpAny_rule (wpAny_bind (wpAny_setField hu ad (by simp) ?_)));show wpAny _ A.in1 (newExc (.type "StopIteration") [] >>= _) _ _ _;unfold newExc newTuple;refine wpAny_bind (wpAny_bind (wpAny_newObj_type (wpAny_bind (m:=firstArgMember _ _) (wpAny_of_eq (a:=Value.none) (by first|rfl|(simp only[firstArgMember];rfl)) (wpAny_newObj_type ?_ (by size_fits)))) (by size_fits)));unfold raiseNew;refine wpAny_bind (wpAny_handled ?_);rw[show A.in1.handled=none from hh];exact wpAny_bind (wpAny_pure (wpAny_throw (q _ _ (((Heap.SameBut.update ..).extBut.push _).push _) ⟨_,Heap.get?_push_size _ rfl,rfl⟩)))
theorem jQ (hh:A.handled=none)(it a:Addr)(hne:a≠it)(its:Array Value):Draws prog w A it [it,a] its.size (fun i v=>its[i]?=some v) (fun i h=>h.IsTupleIter it a i∧h.IsTuple a its) where
 live:=fun _ _ st=>let ⟨o,ho,_⟩:=st.1;⟨o,ho⟩
 frame:=fun _ _ _ st hk=>⟨let ⟨o,ho,r⟩:=st.1;⟨o,hk it (by simp) o ho,r⟩,let ⟨o,ho,r⟩:=st.2;⟨o,hk a (by simp) o ho,r⟩⟩
 item:=fun i s Q E hi st hQ=>B7 st.1 st.2 (x:=its[i]) (by simp[hi]) fun h' hit' hs'=>hQ _ h' s.toks (by simp[hi]) ⟨hit',st.2.extBut hs'.extBut hne⟩ hs'
 done:=fun s Q E st hE=>B8 hh st.1 st.2 (by simp) hE
end
noncomputable abbrev titO (t:Addr):Obj:={ cls:=.type "tuple_iterator",data:=.fields #[.ref t,.int 0 0]}
noncomputable abbrev enuO (it:Addr):Obj:={ cls:=.type "enumerate",data:=.fields #[.none,.bool false,.ref it,rawInt 0,.none,.none]}
theorem B9 (t:Addr)(its:Array Value):Meets (Builtin.«enumerate.__new__» ⟨[.type "enumerate",.ref t],[]⟩) (fun _ R s=>s.heap.IsTuple t its ∧
  R (.ok (.ret (.ref (s.heap.push (titO t)).objs.size))) {s with heap:=(s.heap.push (titO t)).push (enuO s.heap.objs.size)}):=
 .of_wp fun prog w A R s h=>by
  obtain⟨hp,g,d,tk,os⟩:=s;obtain⟨hl,h⟩:=h;have hsub:=sub_enumerate
  wp_walk using wpAny_pyIter_tuple hl
  refine wpAny_stack_any fun _=>wpAny_pure ?_;split
  ·rename_i z _ _ _ _ _;cases (z == Value.type "enumerate") <;> (wp_walk using wpAny_pyIter_tuple hl) <;> exact⟨_,rfl,h⟩
  ·wp_walk using wpAny_pyIter_tuple hl
   exact⟨_,rfl,h⟩
section
variable {prog:Program}{w:World}{A:Around}{E:Value->Shared->Prop}{s:Shared}
theorem Ba {t:Addr}{its:Array Value}{Q:Value->Shared->Prop}(ht:s.heap.IsTuple t its)
  (h:∀h',IsEnum h' (s.heap.objs.size+1) s.heap.objs.size 0 .none->h'.IsTupleIter s.heap.objs.size t 0->(∀b o,s.heap.get? b=some o->h'.get? b=some o)->Q (.ref (s.heap.objs.size+1)) {s with heap:=h' }) :
  wpAny (model prog w) A (call (.type "enumerate") [.ref t]) Q E s:=by
 refine callType_new F.called_enumerate (by decide) (F.typeCall_enumerate_1 _) (F.newCall_enumerate_1 _) (fun ad=>F.args_object_init_2 ad _) F.entry_enumerate_new (B9 t its) ⟨ht,?_⟩;have hz:(s.heap.push (titO t)).objs.size=s.heap.objs.size+1:=Heap.size_push ..;show _∧_;rw[hz];have he:IsEnum ((s.heap.push (titO t)).push (enuO s.heap.objs.size)) (s.heap.objs.size+1) s.heap.objs.size 0 .none:=by have:=Heap.get?_push_size (s.heap.push (titO t)) (o:=enuO s.heap.objs.size) rfl;rw[hz] at this;exact this
 exact⟨⟨_,he,rfl⟩,h _ he ⟨_,Heap.get?_push_of_some _ (Heap.get?_push_size _ rfl),rfl,rfl⟩ fun b o x=>Heap.get?_push_of_some _ (Heap.get?_push_of_some _ x)⟩
end
noncomputable def ItE (K:W.Frag)(a:Addr)(xs:List V):It:=ItW xs.length (fun H=>SqT K H a xs) fun i _ ys=>∃v,xs[i]?=some v∧ys=[.int (i:Int),v]
theorem Bb {P:Program}{w:World}{K:W.Frag}{elts:List Expr}{k:Nat}{pos:Pos}(a it e:Addr)(xs:List V)(h1:a≠it)(h2:e≠it)(h3:e≠a) :
  Turn P w K (.Tuple elts k pos) (ItE K a xs) [e,it] e (fun i h=>(∃old,IsEnum h e it i old)∧h.IsTupleIter it a i):=by
 refine jP (fp:=e::[it,a]) (α:={ dl:Array Value // dl.size=xs.length}) (Pt:=fun z i ad=>∃t x,z.1[i]?=some x∧ad=#[.int i t,x])
  (Sn:=fun z i h=>(∃old,IsEnum h e it i old)∧(h.IsTupleIter it a i∧h.IsTuple a z.1)) (Mid:=fun z i T h=>(∃x,IsEnumOut h e it ((i:Int)+1) x T)∧(h.IsTupleIter it a (i+1)∧h.IsTuple a z.1)∧T≠e∧T≠it)
  (by simp) (fun _ z=>z) (fun A z hh=>?_) (fun A i s Q E st q=>?_) (fun i h st b hb=>?_) (fun i h h' st kp=>?_) ?_ (fun z i h st=>⟨st.1,st.2.1⟩)
 ·have:=WalksT.enumerateD (jQ (prog:=P) (w:=w) (A:=A.in1) hh it a h1 z.1) e h2 (by simp[h2,h3]) (by simp);rw[z.2] at this;exact this
 ·obtain⟨⟨old,he⟩,_⟩:=st;exact wpAny_pyIter_enum he q
 ·obtain⟨⟨old,he⟩,o,ho,hc,hd⟩:=st;rcases mem_cons.mp hb with rfl|hb
  ·exact⟨_,he,fun v z=>by cases z⟩
  ·rw[mem_singleton.mp hb];exact⟨o,ho,fun v z=>by rw[hd] at z;cases z⟩
 ·obtain⟨⟨old,he⟩,o,ho,r⟩:=st;exact⟨⟨old,kp e (by simp) _ he⟩,o,kp it (by simp) o ho,r⟩
 ·intro X hP hw hK i mt s σ H J hf st BT;subst hP hw hK;obtain⟨dl,rv,p,hz⟩:=J.tuple BT;refine⟨⟨dl.toArray,by have:=rv.length;simp;lia⟩,⟨st.1,st.2,p⟩,?_⟩;rintro ad ⟨t,x,hx,rfl⟩;have ld:dl[i]?=some x:=by simpa using hx
  have hi:i < xs.length:=by have:=rv.length;have:=(List.getElem?_eq_some_iff.mp ld).1;lia
  obtain⟨u,hu,ru⟩:=rv.get (List.getElem?_eq_getElem hi);rw[ld] at hu;cases hu;exact⟨[.int (i:Int),xs[i]],(show 2≤sizeLine by decide),.cons ⟨t,rfl⟩ (.cons ru .nil),xs[i],List.getElem?_eq_getElem hi,rfl⟩
section
variable {X:Cx}{K:W.Frag}{elts:List Expr}{kk:Nat}{tpos:Pos}
noncomputable def iEnum (K:W.Frag)(ta:TA):TI:=fun σ H R=>ta σ H fun vs H1=>∃a xs,vs=[.ref a]∧SqT K H1 a xs∧R (ItE K a xs) H1
theorem Bc {a:Expr}{ta:TA}{p pos:Pos}(h:X.K=K)(hg:Gl X "enumerate")(hm:X.mg "enumerate"=none)(ha:PA X [a] ta)(hs:starEach [a] X.env=[(false,eval a X.env)]:=by rfl):PI X (.Tuple elts kk tpos) (.Call (.Name "enumerate" p) [a] [] pos) (iEnum K ta):=by
 subst h;intro ad s σ H R I q;refine Call_ (bt I hg hm boot_enumerate (PyProof.Rows.callWith_type1 (thn (ha pos ad s σ H _ I q) fun us s1 W'=>?_) hs rfl));obtain⟨vs,H1,I1,r1,q1⟩:=W';obtain⟨a,xs,e,hq,q⟩:=q1;subst e;obtain⟨u,rfl,ru⟩:=vals1 r1;cases ru;obtain⟨BT,rv,pt,hz⟩:=I1.tuple hq;refine Ba (show s1.heap.IsTuple a BT.toArray from pt) fun h' he hi hk=>?_;refine wpAny_pyIter_enum (s:={ s1 with heap:=h' }) he ?_;have mt:a < s1.heap.objs.size:=by obtain⟨o,ho,_⟩:=pt;exact Heap.lt_size ho
 have dl:Inv X ad σ H1 {s1 with heap:=h' }:=I1.kept (t':=s1.toks) hk;refine⟨s1.heap.objs.size+1,[s1.heap.objs.size+1,s1.heap.objs.size],_,_,H1,rfl,dl,Bb a s1.heap.objs.size (s1.heap.objs.size+1) xs (Nat.ne_of_lt mt) (Nat.succ_ne_self _) (Nat.ne_of_gt (Nat.lt_succ_of_lt mt)),⟨⟨_,he⟩,hi⟩,fun b hb=>?_,q⟩;simp only[mem_cons,not_mem_nil,or_false] at hb;have ld:s1.heap.objs.size≤b:=by
  rcases hb with rfl|rfl
  ·exact Nat.le_succ _
  ·exact Nat.le_refl _
 exact I1.fpOk ld (I1.hok.fresh ld)
variable {σ:St}{H:Hp}{D:Ends}{g:TG}{tb:TS}{aa:TA}
theorem Bd:(tFor (iEnum K aa) g tb D σ H)=(aa σ H fun vs H1=>∃a xs,vs=[.ref a]∧SqT K H1 a xs∧LoopI (ItE K a xs) g tb D σ H1):=rfl
theorem Be {a:Addr}{xs:List V}(Pv:Nat->St->Hp->Prop)(h0:Pv 0 σ H)(hl:∀i σ H,i≤xs.length->Pv i σ H->SqT K H a xs)
  (hs:∀i v σ H T,xs[i]?=some v->Pv i σ H->H T=none->g (.ref T) σ (upd H T (.tup [.int (i:Int),v])) fun σ2 H2=>tb {D with nx:=Pv (i+1),ct:=Pv (i+1),bk:=D.nx} σ2 H2) (hd:∀σ H,Pv xs.length σ H->D.nx σ H):LoopI (ItE K a xs) g tb D σ H:=
 oP Pv h0 hl (fun i σ H T ys _ p hT hy=>by obtain⟨v,hv,rfl⟩:=hy;exact hs i v σ H T hv p hT) hd
end
structure Zap (z TI TO i1 i2 l1 l2:Addr):Prop where
 a1:TI≠z∧TO≠z∧i1≠z∧i2≠z∧l1≠z∧l2≠z
 a2:TI≠TO∧TI≠i1∧TI≠i2∧TO≠i1∧TO≠i2∧i1≠i2
 a3:l1≠TO∧l2≠TO∧l1≠i2∧l2≠i1
section
variable {prog:Program}{w:World}{A:Around}{E:Value->Shared->Prop}{s:Shared}
variable {z TI TO i1 i2 l1 l2:Addr}{n1 n2 k:Nat}{P1 P2:Nat->Value->Prop}{S1 S2:Nat->Heap->Prop}
theorem still {it l b:Addr}{n i:Nat}{P:Nat->Value->Prop}{S:Nat->Heap->Prop}{h h':Heap}(D:Draws prog w A it [it,l] n P S)(st:S i h)(e:Heap.ExtBut b h h')(h1:it≠b)(h2:l≠b):S i h':=
 D.frame i h h' st fun c hc o q=>e c o (by rcases mem_cons.mp hc with rfl|hc;exact h1;rw[mem_singleton.mp hc];exact h2) q
theorem Bf (hh:A.handled=none)(d1:∀A:Around,A.handled=none->Draws prog w A i1 [i1,l1] n1 P1 S1)(d2:∀A:Around,A.handled=none->Draws prog w A i2 [i2,l2] n2 P2 S2)(ap:Zap z TI TO i1 i2 l1 l2){a b:Value}{Q:Value->Shared->Prop}
  (hz:IsZip s.heap z TI TO .none) (hTI:IsPair s.heap TI (.ref i1) (.ref i2)) (hTO:IsPair s.heap TO a b) (t1:S1 k s.heap) (t2:S2 k s.heap) (k1:k < n1) (k2:k < n2)
  (q:∀x y h' tk,P1 k x->P2 k y->IsZip h' z TI TO (rawInt s.heap.objs.size)->IsPair h' TO x y->S1 (k+1) h'->S2 (k+1) h'->IsPair h' s.heap.objs.size x y ->
   (∀c o,c≠z->c≠TO->c≠i1->c≠i2->s.heap.get? c=some o->h'.get? c=some o)->Q (.ref s.heap.objs.size) {s with heap:=h',toks:=tk}) :
  wpAny (model prog w) A (Builtin.«zip.__next__» ⟨[.ref z],[]⟩) (fun fin s'=>∃v,fin=.done (.ret v)∧Q v s') E s:=by
 obtain⟨⟨p1,p2,p3,p4,p5,p6⟩,⟨q1,q2,q3,q4,q5,q6⟩,r1,r2,r3,r4⟩:=ap;show wpAny _ _ (field (.ref z) 2 >>= _) _ _ s;refine wpAny_bind (wpAny_field (s:=s) hz rfl (x:=.bool false) rfl ?_);show wpAny _ _ (field (.ref z) 3 >>= _) _ _ s;refine wpAny_bind (wpAny_field (s:=s) hz rfl (x:=.ref TI) rfl (wpAny_bind (wpAny_seqItems hTI rfl ?_)));show wpAny _ _ (Builtin.SmallTypes.ownedTupleIsFree (.ref z) >>= _) _ _ s;unfold Builtin.SmallTypes.ownedTupleIsFree;refine wpAny_bind (wpAny_bind (wpAny_field (s:=s) hz rfl (x:=.none) rfl (wpAny_pure ?_)));simp only[if_true];refine wpAny_bind (wpAny_rule (wpAny_bind (wpAny_field (s:=s) hz rfl (x:=.ref TO) rfl (wpAny_bind (wpAny_setField_rec hz (by simp) fun ha za sa=>?_)))));replace za:IsZip ha z TI TO .ellipsis:=za;simp only[List.zipIdx_cons,List.zipIdx_nil,forIn_cons,List.forIn_nil];refine wpAny_bind (wpAny_bind (wpAny_bind (wpAny_onRaise ?_)));show wpAny _ _ (Builtin.SmallTypes.nextOf (.ref i1) >>= _) _ _ _;refine wpAny_bind ((d1 A hh).item k _ _ _ k1 (still (d1 A hh) t1 sa.extBut p3 p5) fun x hb tb px Cl sb=>wpAny_pure ?_);have ob:IsPair hb TO a b:=sb.extBut _ _ q4 (sa.extBut _ _ p2 hTO);refine wpAny_bind (wpAny_seqItems ob rfl (wpAny_bind (wpAny_updateSeq_pair ob fun hc oc sc=>wpAny_bind (wpAny_letGo (wpAny_pure ?_)))));replace oc:IsPair hc TO x b:=oc;refine wpAny_bind (wpAny_bind (wpAny_onRaise ?_));show wpAny _ _ (Builtin.SmallTypes.nextOf (.ref i2) >>= _) _ _ _;have dl:S2 k hc:=still (d2 A hh) (still (d2 A hh) (still (d2 A hh) t2 sa.extBut p4 p6) sb.extBut q6.symm r4) sc.extBut q5.symm r2;refine wpAny_bind ((d2 A hh).item k _ _ _ k2 dl fun y hd td py mt sd=>wpAny_pure ?_);have od:IsPair hd TO x b:=sd.extBut _ _ q5 oc;refine wpAny_bind (wpAny_seqItems od rfl (wpAny_bind (wpAny_updateSeq_pair od fun he oe se=>wpAny_bind (wpAny_letGo (wpAny_pure (wpAny_pure ?_))))));replace oe:IsPair he TO x y:=oe;refine wpAny_bind (wpAny_seqItems oe rfl (wpAny_bind (wpAny_newTuple ?_)));have ze:IsZip he z TI TO .ellipsis:=se.extBut _ _ p2.symm (sd.extBut _ _ p4.symm (sc.extBut _ _ p2.symm (sb.extBut _ _ p3.symm za)));have ad:he.objs.size=s.heap.objs.size:=by rw[se.1,sd.1,sc.1,sb.1,sa.1]
 have ke:∀c o,c≠z->c≠TO->c≠i1->c≠i2->s.heap.get? c=some o->he.get? c=some o:=fun c o c1 c2 c3 c4 e=>se.extBut _ _ c2 (sd.extBut _ _ c4 (sc.extBut _ _ c2 (sb.extBut _ _ c3 (sa.extBut _ _ c1 e))));have BT:S1 (k+1) he:=still (d1 A hh) (still (d1 A hh) (still (d1 A hh) Cl sc.extBut q4.symm r1) sd.extBut q6 r3) se.extBut q4.symm r1;have ld:S2 (k+1) he:=still (d2 A hh) mt se.extBut q5.symm r2;have zl:z < he.objs.size:=Heap.lt_size ze;show wpAny _ _ (Builtin.SmallTypes.ownedTupleHandOut (.ref z) (.ref he.objs.size) >>= _) _ _ _;unfold Builtin.SmallTypes.ownedTupleHandOut;have zf:IsZip (he.push {cls:=.type "tuple",data:=.seq #[x,y]}) z TI TO .ellipsis:=Heap.get?_push_of_some _ ze;refine wpAny_bind (wpAny_bind (wpAny_setField_rec zf (by simp) fun hf zg sf=>?_));replace zg:IsZip hf z TI TO (rawInt he.objs.size):=zg;refine wpAny_setField_rec zg (by simp) fun hg zh sg=>?_;replace zh:IsZip hg z TI TO (rawInt he.objs.size):=zh;have up:∀c o,c≠z->he.get? c=some o->hg.get? c=some o:=fun c o c1 e=>sg.extBut _ _ c1 (sf.extBut _ _ c1 (Heap.get?_push_of_some _ e));have tg:IsPair hg he.objs.size x y:=sg.extBut _ _ (Nat.ne_of_gt zl) (sf.extBut _ _ (Nat.ne_of_gt zl) (Heap.get?_push_size _ rfl));rw[ad] at zh tg;refine wpAny_pure ⟨_,rfl,?_⟩;show Q (.ref he.objs.size) _;rw[ad];exact q x y hg td px py zh (up _ _ p2 oe) ((d1 A hh).frame _ _ _ BT fun c hc o e=>up c o (by rcases mem_cons.mp hc with rfl|hc;exact p3;rw[mem_singleton.mp hc];exact p5) e) ((d2 A hh).frame _ _ _ ld fun c hc o e=>up c o (by rcases mem_cons.mp hc with rfl|hc;exact p4;rw[mem_singleton.mp hc];exact p6) e) tg fun c o c1 c2 c3 c4 e=>up c o c1 (ke c o c1 c2 c3 c4 e)
theorem Bg (hh:A.handled=none)(d1:∀A:Around,A.handled=none->Draws prog w A i1 [i1,l1] n1 P1 S1)(d2:∀A:Around,A.handled=none->Draws prog w A i2 [i2,l2] n2 P2 S2)(ap:Zap z TI TO i1 i2 l1 l2){a b:Value}{Q:Fin->Shared->Prop}
  (hz:IsZip s.heap z TI TO .none) (hTI:IsPair s.heap TI (.ref i1) (.ref i2)) (hTO:IsPair s.heap TO a b) (t1:S1 k s.heap) (t2:S2 k s.heap) (hk:k=n1∨(k < n1∧k=n2))
  (q:∀h' e tk,(∀c o,c≠z->c≠TO->c≠i1->c≠i2->s.heap.get? c=some o->h'.get? c=some o)->(∃o,h'.get? e=some o∧o.cls=.type "StopIteration")->E (.ref e) {s with heap:=h',toks:=tk}) :
  wpAny (model prog w) A (Builtin.«zip.__next__» ⟨[.ref z],[]⟩) Q E s:=by
 obtain⟨⟨p1,p2,p3,p4,p5,p6⟩,⟨q1,q2,q3,q4,q5,q6⟩,r1,r2,r3,r4⟩:=ap;show wpAny _ _ (field (.ref z) 2 >>= _) _ _ s;refine wpAny_bind (wpAny_field (s:=s) hz rfl (x:=.bool false) rfl ?_);show wpAny _ _ (field (.ref z) 3 >>= _) _ _ s;refine wpAny_bind (wpAny_field (s:=s) hz rfl (x:=.ref TI) rfl (wpAny_bind (wpAny_seqItems hTI rfl ?_)));show wpAny _ _ (Builtin.SmallTypes.ownedTupleIsFree (.ref z) >>= _) _ _ s;unfold Builtin.SmallTypes.ownedTupleIsFree;refine wpAny_bind (wpAny_bind (wpAny_field (s:=s) hz rfl (x:=.none) rfl (wpAny_pure ?_)));simp only[if_true];refine wpAny_bind (wpAny_rule (wpAny_bind (wpAny_field (s:=s) hz rfl (x:=.ref TO) rfl (wpAny_bind (wpAny_setField_rec hz (by simp) fun ha za sa=>?_)))));replace za:IsZip ha z TI TO .ellipsis:=za;simp only[List.zipIdx_cons,List.zipIdx_nil,forIn_cons,List.forIn_nil];refine wpAny_bind (wpAny_bind (wpAny_bind (wpAny_onRaise ?_)));show wpAny _ _ (Builtin.SmallTypes.nextOf (.ref i1) >>= _) _ _ _;rcases hk with rfl|⟨k1,rfl⟩
 ·refine wpAny_bind ((d1 A hh).done _ _ _ (still (d1 A hh) t1 sa.extBut p3 p5) fun hb e sb W'=>?_);obtain⟨oe,ho,hc⟩:=W';have zb:IsZip hb z TI TO .ellipsis:=sb _ _ p3.symm za;have ez:e≠z:=fun y=>by subst y;rw[zb] at ho;cases ho;simp at hc
  exact wpAny_setField_rec zb (by simp) fun hd _ sd=>q hd e _ (fun c o c1 _ c3 _ y=>sd.extBut _ _ c1 (sb _ _ c3 (sa.extBut _ _ c1 y))) ⟨oe,sd.extBut _ _ ez ho,hc⟩
 refine wpAny_bind ((d1 A hh).item _ _ _ _ k1 (still (d1 A hh) t1 sa.extBut p3 p5) fun x hb tb px ld sb=>wpAny_pure ?_);have ob:IsPair hb TO a b:=sb.extBut _ _ q4 (sa.extBut _ _ p2 hTO);refine wpAny_bind (wpAny_seqItems ob rfl (wpAny_bind (wpAny_updateSeq_pair ob fun hc oc sc=>wpAny_bind (wpAny_letGo (wpAny_pure ?_)))));refine wpAny_bind (wpAny_bind (wpAny_onRaise ?_));show wpAny _ _ (Builtin.SmallTypes.nextOf (.ref i2) >>= _) _ _ _;have dl:=still (d2 A hh) (still (d2 A hh) (still (d2 A hh) t2 sa.extBut p4 p6) sb.extBut q6.symm r4) sc.extBut q5.symm r2;refine wpAny_bind ((d2 A hh).done _ _ _ dl fun hd e sd W'=>?_);obtain⟨oe,ho,ad⟩:=W';have zd:IsZip hd z TI TO .ellipsis:=sd _ _ p4.symm (sc.extBut _ _ p2.symm (sb.extBut _ _ p3.symm za));have ez:e≠z:=fun y=>by subst y;rw[zd] at ho;cases ho;simp at ad
 exact wpAny_setField_rec zd (by simp) fun hf _ sf=>q hf e _ (fun c o c1 c2 c3 c4 y=>sf.extBut _ _ c1 (sd _ _ c4 (sc.extBut _ _ c2 (sb.extBut _ _ c3 (sa.extBut _ _ c1 y))))) ⟨oe,sf.extBut _ _ ez ho,ad⟩
theorem Bh (hh:A.handled=none)(d1:∀A:Around,A.handled=none->Draws prog w A i1 [i1,l1] n1 P1 S1)(d2:∀A:Around,A.handled=none->Draws prog w A i2 [i2,l2] n2 P2 S2)(ap:Zap z TI TO i1 i2 l1 l2) :
  WalksT prog w A z [z,TI,TO,i1,i2,l1,l2] [z,TO,i1,i2] (min n1 n2) (fun i vals=>∃x y,P1 i x∧P2 i y∧vals=#[x,y])
   (fun i h=>IsZip h z TI TO .none∧IsPair h TI (.ref i1) (.ref i2)∧(∃a b,IsPair h TO a b)∧S1 i h∧S2 i h)
   (fun i T h=>IsZip h z TI TO (rawInt T)∧IsPair h TI (.ref i1) (.ref i2)∧(∃a b,IsPair h TO a b)∧S1 (i+1) h∧S2 (i+1) h∧T≠z∧T≠TO∧T≠i1∧T≠i2) where
 sub:=fun c hc=>by simp at hc ⊢;rcases hc with rfl|rfl|rfl|rfl <;> simp
 frame:=fun i h h' st hk=>by obtain⟨hz,hTI,⟨a,b,hTO⟩,t1,t2⟩:=st;exact⟨hk z (by simp) _ hz,hk TI (by simp) _ hTI,⟨a,b,hk TO (by simp) _ hTO⟩,(d1 A hh).frame _ _ _ t1 fun c hc o e=>hk c (by simp at hc ⊢;rcases hc with rfl|rfl <;> simp) o e,(d2 A hh).frame _ _ _ t2 fun c hc o e=>hk c (by simp at hc ⊢;rcases hc with rfl|rfl <;> simp) o e⟩
 item:=fun i s Q E hi st hQ=>by
  obtain⟨hz,hTI,⟨a,b,hTO⟩,t1,t2⟩:=st;have hT:s.TypeIs (.ref z) "zip" := ⟨_,hz,rfl⟩;have lt:∀{c o},s.heap.get? c=some o->s.heap.objs.size≠c:=fun e=>Nat.ne_of_gt (Heap.lt_size e);unfold pyNext;refine wpAny_bind (wpAny_attempt (wpAny_callSpecial?_slot (name:=Str.ofString "__next__") hT F.slot_zip_next (wpAny_call_entry F.slot_zip_next hT F.entry_zip_next ?_ (F.args_zip_next_1 _))));refine Bf (A:=A.in1) hh d1 d2 ap hz hTI hTO t1 t2 (Nat.lt_of_lt_of_le hi (Nat.min_le_left ..)) (Nat.lt_of_lt_of_le hi (Nat.min_le_right ..)) fun x y h' tk px py z' o' s1 s2 T' hk=>wpAny_pure ?_;obtain⟨o1,e1⟩:=(d1 A hh).live _ _ t1;obtain⟨o2,e2⟩:=(d2 A hh).live _ _ t2;exact hQ s.heap.objs.size #[x,y] h' tk ⟨x,y,px,py,rfl⟩ (Nat.le_refl _) ⟨_,T',rfl,_,rfl⟩
   ⟨z',hk _ _ ap.a1.1 ap.a2.1 ap.a2.2.1 ap.a2.2.2.1 hTI,⟨_,_,o'⟩,s1,s2,lt hz,lt hTO,lt e1,lt e2⟩
   fun c o hc e=>hk c o (fun y=>hc (by simp[y])) (fun y=>hc (by simp[y])) (fun y=>hc (by simp[y])) (fun y=>hc (by simp[y])) e
 go:=fun elts k pos i T s Q E hm hQ=>by obtain⟨hz,hTI,⟨a,b,hTO⟩,t1,t2,_⟩:=hm;obtain⟨⟨p1,p2,p3,p4,p5,p6⟩,_⟩:=ap;exact wpAny_letOwnedTupleGo_zip hz fun h' z' s'=>hQ h' ⟨z',s'.extBut _ _ p1 hTI,⟨a,b,s'.extBut _ _ p2 hTO⟩,still (d1 A hh) t1 s'.extBut p3 p5,still (d2 A hh) t2 s'.extBut p4 p6⟩ fun c o hc e=>s'.extBut _ _ (fun y=>hc (by simp[y])) e
 apart:=fun i T h hm hT=>by
  obtain⟨_,_,_,_,_,t1,t2,t3,t4⟩:=hm;simp only[mem_cons,not_mem_nil,or_false] at hT;rcases hT with h|h|h|h
  ·exact t1 h
  ·exact t2 h
  ·exact t3 h
  ·exact t4 h
 done:=fun s Q E st hQ=>by obtain⟨hz,hTI,⟨a,b,hTO⟩,t1,t2⟩:=st;have hT:s.TypeIs (.ref z) "zip" := ⟨_,hz,rfl⟩;unfold pyNext;refine wpAny_bind (wpAny_attempt (wpAny_callSpecial?_slot (name:=Str.ofString "__next__") hT F.slot_zip_next (wpAny_call_entry F.slot_zip_next hT F.entry_zip_next ?_ (F.args_zip_next_1 _))));refine Bg (A:=A.in1) hh d1 d2 ap hz hTI hTO t1 t2 (by lia) fun h' e tk hk W'=>?_;obtain⟨o,ho,hc⟩:=W';refine wpAny_bind (wpAny_isInstance (T := "StopIteration") (b:=true) ⟨o,ho,hc⟩ isSubtype_stop (wpAny_pure (hQ h' tk fun c o hc e=>?_)));exact hk c o (fun y=>hc (by simp[y])) (fun y=>hc (by simp[y])) (fun y=>hc (by simp[y])) (fun y=>hc (by simp[y])) e
 self:=fun i s Q E st hQ=>wpAny_pyIter_zip st.1 hQ
end
noncomputable abbrev zA (h:Heap)(a:Addr):Heap:=h.push (titO a)
noncomputable abbrev zB (h:Heap)(a b:Addr):Heap:=(zA h a).push (titO b)
noncomputable abbrev zC (h:Heap)(a b:Addr):Heap:=(zB h a b).push {cls:=.type "tuple",data:=.seq #[.ref h.objs.size,.ref (zA h a).objs.size]}
noncomputable abbrev zD (h:Heap)(a b:Addr):Heap:=(zC h a b).push {cls:=.type "tuple",data:=.seq #[.none,.none]}
noncomputable abbrev zE (h:Heap)(a b:Addr):Heap:=(zD h a b).push {cls:=.type "zip",data:=.fields #[.none,.bool false,.bool false,.ref (zB h a b).objs.size,.ref (zC h a b).objs.size]}
theorem Bi (a b:Addr)(xs ys:Array Value):Meets (Builtin.«zip.__new__» ⟨[.type "zip",.ref a,.ref b],[]⟩) (fun _ R s=>s.heap.IsTuple a xs∧s.heap.IsTuple b ys∧R (.ok (.ret (.ref (zD s.heap a b).objs.size))) {s with heap:=zE s.heap a b}):=
 .of_wp fun prog w A R s h=>by
  obtain⟨hp,g,d,tk,os⟩:=s;obtain⟨ha,hb,h⟩:=h;have hsub:=sub_zip;have h1:Heap.IsTuple (Shared.heap ⟨hp,g,d,tk,os⟩) a xs:=ha;have h2:Heap.IsTuple (Shared.heap ⟨hp.push (titO a),g,d,tk,os⟩) b ys:=Heap.IsTuple.push hb _
  wp_walk using wpAny_pyIter_tuple h1,wpAny_pyIter_tuple h2
  exact⟨_,rfl,h⟩
section
variable {prog:Program}{w:World}{A:Around}{E:Value->Shared->Prop}{s:Shared}
theorem Bj {a b:Addr}{xs ys:Array Value}{Q:Value->Shared->Prop}(ha:s.heap.IsTuple a xs)(hb:s.heap.IsTuple b ys)
  (h:∀h',IsZip h' (s.heap.objs.size+4) (s.heap.objs.size+2) (s.heap.objs.size+3) .none->IsPair h' (s.heap.objs.size+2) (.ref s.heap.objs.size) (.ref (s.heap.objs.size+1))->IsPair h' (s.heap.objs.size+3) .none .none ->
   h'.IsTupleIter s.heap.objs.size a 0->h'.IsTupleIter (s.heap.objs.size+1) b 0->(∀c o,s.heap.get? c=some o->h'.get? c=some o)->Q (.ref (s.heap.objs.size+4)) {s with heap:=h' }) :
  wpAny (model prog w) A (call (.type "zip") [.ref a,.ref b]) Q E s:=by
 refine callType_new F.called_zip (by decide) (F.typeCall_zip_2 _ _) (F.newCall_zip_2 _ _) (fun ad=>F.args_object_init_3 ad _ _) F.entry_zip_new (Bi a b xs ys) ⟨ha,hb,?_⟩;have y1:(zA s.heap a).objs.size=s.heap.objs.size+1:=Heap.size_push ..;have y2:(zB s.heap a b).objs.size=s.heap.objs.size+2:=by rw[Heap.size_push,y1]
 have y3:(zC s.heap a b).objs.size=s.heap.objs.size+3:=by rw[Heap.size_push,y2]
 have y4:(zD s.heap a b).objs.size=s.heap.objs.size+4:=by rw[Heap.size_push,y3]
 have up:∀{h:Heap}{o:Obj}{c:Addr}{u:Obj},h.get? c=some u->(h.push o).get? c=some u:=fun e=>Heap.get?_push_of_some _ e;have e5:(zE s.heap a b).get? (zD s.heap a b).objs.size=some _:=Heap.get?_push_size _ rfl;have e4:(zE s.heap a b).get? (zC s.heap a b).objs.size=some _:=up (Heap.get?_push_size _ rfl);have e3:(zE s.heap a b).get? (zB s.heap a b).objs.size=some _:=up (up (Heap.get?_push_size _ rfl));have e2:(zE s.heap a b).get? (zA s.heap a).objs.size=some _:=up (up (up (Heap.get?_push_size _ rfl)));have e1:(zE s.heap a b).get? s.heap.objs.size=some _:=up (up (up (up (Heap.get?_push_size _ rfl))));show _∧_;rw[y2,y3,y4] at e5;rw[y1,y2] at e3;rw[y3] at e4;rw[y1] at e2;rw[y4];exact⟨⟨_,e5,rfl⟩,h _ e5 e3 e4 ⟨_,e1,rfl,rfl⟩ ⟨_,e2,rfl,rfl⟩ fun c o x=>up (up (up (up (up x))))⟩
end
noncomputable def ItZ (K:W.Frag)(a b:Addr)(xs ys:List V):It:=ItW (min xs.length ys.length) (fun H=>SqT K H a xs∧SqT K H b ys) fun i _ vs=>∃x y,xs[i]?=some x∧ys[i]?=some y∧vs=[x,y]
theorem Bk {P:Program}{w:World}{K:W.Frag}{elts:List Expr}{k:Nat}{pos:Pos}{z TI TO i1 i2 a b:Addr}(xs ys:List V)(ap:Zap z TI TO i1 i2 a b)(h1:a≠i1)(h2:b≠i2) :
  Turn P w K (.Tuple elts k pos) (ItZ K a b xs ys) [z,TO,i1,i2,TI] z (fun i h=>IsZip h z TI TO .none∧IsPair h TI (.ref i1) (.ref i2)∧(∃u v,IsPair h TO u v)∧h.IsTupleIter i1 a i∧h.IsTupleIter i2 b i):=by
 refine jP (fp:=[z,TI,TO,i1,i2,a,b]) (wr:=[z,TO,i1,i2]) (α:={ q:Array Value×Array Value // q.1.size=xs.length∧q.2.size=ys.length}) (Pt:=fun q i ad=>∃x y,q.1.1[i]?=some x∧q.1.2[i]?=some y∧ad=#[x,y])
  (Sn:=fun q i h=>IsZip h z TI TO .none∧IsPair h TI (.ref i1) (.ref i2)∧(∃a b,IsPair h TO a b)∧(h.IsTupleIter i1 a i∧h.IsTuple a q.1.1)∧(h.IsTupleIter i2 b i∧h.IsTuple b q.1.2))
  (Mid:=fun q i T h=>IsZip h z TI TO (rawInt T)∧IsPair h TI (.ref i1) (.ref i2)∧(∃a b,IsPair h TO a b)∧(h.IsTupleIter i1 a (i+1)∧h.IsTuple a q.1.1)∧(h.IsTupleIter i2 b (i+1)∧h.IsTuple b q.1.2)∧T≠z∧T≠TO∧T≠i1∧T≠i2)
  (by simp) (fun b hb=>by simp at hb ⊢;rcases hb with rfl|rfl|rfl|rfl <;> simp) (fun A q hh=>?_) (fun A i s Q E st q=>wpAny_pyIter_zip st.1 q) (fun i h st b hb=>?_) (fun i h h' st kp=>?_) ?_ (fun q i h st=>⟨st.1,st.2.1,st.2.2.1,st.2.2.2.1.1,st.2.2.2.2.1⟩)
 ·have:=Bh (prog:=P) (w:=w) (A:=A) hh (fun B hB=>jQ (prog:=P) (w:=w) (A:=B) hB i1 a h1 q.1.1) (fun B hB=>jQ (prog:=P) (w:=w) (A:=B) hB i2 b h2 q.1.2) ap;rw[q.2.1,q.2.2] at this;exact this
 ·obtain⟨hz,hI,⟨u,v,hO⟩,⟨o1,e1,c1,d1⟩,o2,e2,c2,d2⟩:=st;simp only[mem_cons,not_mem_nil,or_false] at hb;rcases hb with rfl|rfl|rfl|rfl|rfl
  ·exact⟨_,hz,fun v z=>by cases z⟩
  ·exact⟨_,hO,fun v z=>by cases z⟩
  ·exact⟨o1,e1,fun v z=>by rw[d1] at z;cases z⟩
  ·exact⟨o2,e2,fun v z=>by rw[d2] at z;cases z⟩
  ·exact⟨_,hI,fun v z=>by cases z⟩
 ·obtain⟨hz,hI,⟨u,v,hO⟩,⟨o1,e1,r1⟩,o2,e2,r2⟩:=st;exact⟨kp z (by simp) _ hz,kp TI (by simp) _ hI,⟨u,v,kp TO (by simp) _ hO⟩,⟨o1,kp i1 (by simp) _ e1,r1⟩,o2,kp i2 (by simp) _ e2,r2⟩
 ·intro X hP hw hK i Fn s σ H J hf st Cl;subst hP hw hK;obtain⟨l1,ld,p1,Fx⟩:=J.tuple Cl.1;obtain⟨l2,dl,p2,Fr⟩:=J.tuple Cl.2;refine⟨⟨(l1.toArray,l2.toArray),by have:=ld.length;simp;lia,by have:=dl.length;simp;lia⟩,⟨st.1,st.2.1,st.2.2.1,⟨st.2.2.2.1,p1⟩,st.2.2.2.2,p2⟩,?_⟩;rintro ad ⟨x,y,hx,hy,rfl⟩;have BT:l1[i]?=some x:=by simpa using hx
  have mt:l2[i]?=some y:=by simpa using hy
  have hi:i < xs.length:=by have:=ld.length;have:=(List.getElem?_eq_some_iff.mp BT).1;lia
  have hj:i < ys.length:=by have:=dl.length;have:=(List.getElem?_eq_some_iff.mp mt).1;lia
  obtain⟨u,hu,ru⟩:=ld.get (List.getElem?_eq_getElem hi);obtain⟨v,hv,rv⟩:=dl.get (List.getElem?_eq_getElem hj);rw[BT] at hu;rw[mt] at hv;cases hu;cases hv;exact⟨[xs[i],ys[i]],(show 2≤sizeLine by decide),.cons ru (.cons rv .nil),xs[i],ys[i],List.getElem?_eq_getElem hi,List.getElem?_eq_getElem hj,rfl⟩
section
variable {X:Cx}{K:W.Frag}{elts:List Expr}{kk:Nat}{tpos:Pos}
theorem Bl {n a b:Nat}(ha:a < n)(hb:b < n):Zap (n+4) (n+2) (n+3) n (n+1) a b:=by refine⟨⟨?_,?_,?_,?_,?_,?_⟩,⟨?_,?_,?_,?_,?_,?_⟩,?_,?_,?_,?_⟩ <;> (show ¬ ((_:Nat)=_)) <;> lia
noncomputable def iZip (K:W.Frag)(ta:TA):TI:=fun σ H R=>ta σ H fun vs H1=>∃a b xs ys,vs=[.ref a,.ref b]∧SqT K H1 a xs∧SqT K H1 b ys∧R (ItZ K a b xs ys) H1
theorem Bm {a b:Expr}{ta:TA}{p pos:Pos}(h:X.K=K)(hg:Gl X "zip")(hm:X.mg "zip"=none)(ha:PA X [a,b] ta)(hs:starEach [a,b] X.env=[(false,eval a X.env),(false,eval b X.env)]:=by rfl)(hs2:starEach [b] X.env=[(false,eval b X.env)]:=by rfl):PI X (.Tuple elts kk tpos) (.Call (.Name "zip" p) [a,b] [] pos) (iZip K ta):=by
 subst h;intro ad s σ H R I q;refine Call_ (bt I hg hm boot_zip (PyProof.Rows.callWith_type1 (thn (ha pos ad s σ H _ I q) fun us s1 W'=>?_) (by rw[hs,hs2]) (by rw[hs2];rfl)));obtain⟨vs,H1,I1,r1,q1⟩:=W';obtain⟨a,b,xs,ys,e,Fn,Cl,q⟩:=q1;subst e;obtain⟨u,v,rfl,ru,rv⟩:=vals2 r1;cases ru;cases rv;obtain⟨l1,Fx,p1,Fz⟩:=I1.tuple Fn;obtain⟨l2,Fr,p2,Fy⟩:=I1.tuple Cl;refine Bj (show s1.heap.IsTuple a l1.toArray from p1) (show s1.heap.IsTuple b l2.toArray from p2) fun h' he hI hO hi hj hk=>?_;refine wpAny_pyIter_zip (s:={ s1 with heap:=h' }) he ?_;have BT:a < s1.heap.objs.size:=by obtain⟨o,ho,_⟩:=p1;exact Heap.lt_size ho
 have ld:b < s1.heap.objs.size:=by obtain⟨o,ho,_⟩:=p2;exact Heap.lt_size ho
 have dl:Inv X ad σ H1 {s1 with heap:=h' }:=I1.kept (t':=s1.toks) hk;refine⟨s1.heap.objs.size+4,[s1.heap.objs.size+4,s1.heap.objs.size+3,s1.heap.objs.size,s1.heap.objs.size+1,s1.heap.objs.size+2],_,_,H1,rfl,dl,Bk xs ys (Bl BT ld) (Nat.ne_of_lt BT) (Nat.ne_of_lt (Nat.lt_succ_of_lt ld)),⟨he,hI,⟨_,_,hO⟩,hi,hj⟩,fun b hb=>?_,q⟩;simp only[mem_cons,not_mem_nil,or_false] at hb;have mt:s1.heap.objs.size≤b:=by
  rcases hb with rfl|rfl|rfl|rfl|rfl
  ·exact Nat.le_add_right _ _
  ·exact Nat.le_add_right _ _
  ·exact Nat.le_refl _
  ·exact Nat.le_add_right _ _
  ·exact Nat.le_add_right _ _
 exact I1.fpOk mt (I1.hok.fresh mt)
variable {σ:St}{H:Hp}{D:Ends}{g:TG}{tb:TS}{aa:TA}
theorem Bn:(tFor (iZip K aa) g tb D σ H)=(aa σ H fun vs H1=>∃a b xs ys,vs=[.ref a,.ref b]∧SqT K H1 a xs∧SqT K H1 b ys∧LoopI (ItZ K a b xs ys) g tb D σ H1):=rfl
variable {p:Addr}{fv:St}{tt:TT}{te:TE}{Q:VK}{H1:Hp}{fr:List Nat}
theorem Bo:(tComp2 K (iZip K aa) fr tt te σ H Q)=(aa σ H fun vs H1=>∃a b xs ys,vs=[.ref a,.ref b]∧SqT K H1 a xs∧SqT K H1 b ys∧∀p,H1 p=none->CompI2 K (ItZ K a b xs ys) p (frV σ fr) tt te Q H1):=rfl
theorem Bp {a b:Addr}{xs ys zs:List V}(hxs:SqT K H1 a xs)(hys:SqT K H1 b ys)(hlen:zs.length≤sizeLine)(hp:H1 p=none)(hz:zs.length=min xs.length ys.length)
  (he:∀(i:Nat) (x y z:V),xs[i]?=some x->ys[i]?=some y->zs[i]?=some z->∀(H':Hp) (T:VK),Same H1 H'->(∀H'',Same H' H''->T z H'')->te (some x::some y::fv) H' T)
  (hQ:∀H',Same H1 H'->H' p=some (.lst zs)->Q (.ref p) H'):CompI2 K (ItZ K a b xs ys) p fv tYes te Q H1:=by
 refine⟨fun i m ws H2=>m=zs.length - i∧i≤zs.length∧ws=zs.take i∧H2 p=some (.lst ws)∧Same H1 H2,⟨zs.length,by simp,Nat.zero_le _,by simp,aL,fun b o e=>by rw[aN (aY e hp)];exact e⟩,?_⟩;rintro i m ws H2 ⟨rfl,hi,rfl,ad,sm⟩;refine⟨ad,?_⟩;have qx:=sm.tup hxs;have qy:=sm.tup hys;by_cases dl:i < zs.length
 ·refine .inr ⟨⟨by rw[<- hz];exact dl,qx,qy⟩,by rw[length_take];lia,fun x H3 y=>?_⟩;obtain⟨T,vs,rfl,hT,rfl,x,y,hx,hy,rfl⟩:=y;have s3:Same H2 (upd H2 T (.tup [x,y])):=fun b o e=>by rw[aN (aY e hT)];exact e
  refine⟨T,x,y,rfl,.inl (.inl aL),?_⟩;unfold tYes;dsimp only;rw[if_pos rfl];have ld:zs[i]?=some zs[i]:=by simp[dl]
  refine he i x y _ hx hy ld _ _ (sm.trans s3) fun H5 s5=>⟨s5 _ _ (s3 _ _ ad),zs.length - (i+1),by lia,rfl,dl,?_,aL,fun b o e=>?_⟩
  ·rw[take_add_one,ld];rfl
  ·rw[aN (aY e hp)];exact s5 _ _ (s3 _ _ (sm _ _ e))
 ·have e:i=zs.length:=by lia
  subst e;refine .inl ⟨⟨hz,qx,qy⟩,hQ H2 sm ?_⟩;rw[ad,take_length]
end
section
variable {p:Addr}{fv:St}{tt:TT}{te:TE}{Q:VK}{H1 H:Hp}{fr:List Nat}{aa:TA}{σ:St}
theorem Bq:(tComp (iRng1 aa) fr tt te σ H Q)=(aa σ H fun vs H1=>∃j:Int,vs=[.int j]∧-(2 ^ 62)≤j∧j < 2 ^ 62∧∀p,H1 p=none->CompI (Itr 0 j.toNat) p (frV σ fr) tt te Q H1):=rfl
theorem oQ {n:Nat}(J:Nat->List V->Hp->Prop)(hlen:n≤sizeLine)(h0:J 0 [] (upd H1 p (.lst [])))
  (he:∀(i:Nat) (ys:List V) (H2:Hp) (T:VK),i < n->J i ys H2->H2 p=some (.lst ys)->(∀y H3,H3 p=some (.lst ys)->J (i+1) (ys++[y]) (upd H3 p (.lst (ys++[y])))->T y H3)->te (some (.int (0+(i:Int)))::fv) H2 T)
  (hQ:∀ys H2,J n ys H2->H2 p=some (.lst ys)->Q (.ref p) H2):CompI (Itr 0 n) p fv tYes te Q H1:=by
 refine⟨fun i m ys H2=>m=n - i∧i≤n∧ys.length=i∧H2 p=some (.lst ys)∧J i ys H2,⟨n,by simp,Nat.zero_le _,rfl,aL,h0⟩,?_⟩;rintro i m ys H2 ⟨rfl,hi,ld,ad,hJ⟩;refine⟨ad,?_⟩;by_cases dl:i < n
 ·refine .inr ⟨dl,by lia,fun x H3 y=>?_⟩;obtain⟨rfl,rfl⟩:=y;unfold tYes;dsimp only;rw[if_pos rfl];exact he i ys _ _ dl hJ ad fun y H5 mt BT=>⟨mt,n - (i+1),by lia,rfl,dl,by rw[length_append,ld];rfl,aL,BT⟩
 ·have e:i=n:=by lia
  subst e;exact .inl ⟨Nat.le_refl _,hQ ys H2 hJ ad⟩
end
noncomputable abbrev litO (t:Addr):Obj:={ cls:=.type "list_iterator",data:=.fields #[.ref t,.int 0 0]}
section
variable {prog:Program}{w:World}{A:Around}{E:Value->Shared->Prop}{s:Shared}
end
noncomputable def ItZL (K:W.Frag)(a b:Addr)(xs ys:List V):It:=ItW (min xs.length ys.length) (fun H=>SqL K H a xs∧SqL K H b ys) fun i _ vs=>∃x y,xs[i]?=some x∧ys[i]?=some y∧vs=[x,y]
section
variable {X:Cx}{K:W.Frag}{elts:List Expr}{kk:Nat}{tpos:Pos}
noncomputable def iZipL (K:W.Frag)(ta:TA):TI:=fun σ H R=>ta σ H fun vs H1=>∃a b xs ys,vs=[.ref a,.ref b]∧SqL K H1 a xs∧SqL K H1 b ys∧R (ItZL K a b xs ys) H1
variable {σ:St}{H:Hp}{D:Ends}{g:TG}{tb:TS}{aa:TA}
theorem Br:(tFor (iZipL K aa) g tb D σ H)=(aa σ H fun vs H1=>∃a b xs ys,vs=[.ref a,.ref b]∧SqL K H1 a xs∧SqL K H1 b ys∧LoopI (ItZL K a b xs ys) g tb D σ H1):=rfl
variable {p:Addr}{fv:St}{tt:TT}{te:TE}{Q:VK}{H1:Hp}{fr:List Nat}
theorem Bs:(tComp2 K (iZipL K aa) fr tt te σ H Q)=(aa σ H fun vs H1=>∃a b xs ys,vs=[.ref a,.ref b]∧SqL K H1 a xs∧SqL K H1 b ys∧∀p,H1 p=none->CompI2 K (ItZL K a b xs ys) p (frV σ fr) tt te Q H1):=rfl
end
section
variable {K:W.Frag}{p:Addr}{fv:St}{te:TE}{Q:VK}{H1:Hp}
end
theorem Bt (t:Addr)(its:Array Value):Meets (Builtin.«enumerate.__new__» ⟨[.type "enumerate",.ref t],[]⟩) (fun _ R s=>s.heap.IsList t its ∧
  R (.ok (.ret (.ref (s.heap.push (litO t)).objs.size))) {s with heap:=(s.heap.push (litO t)).push (enuO s.heap.objs.size)}):=
 .of_wp fun prog w A R s h=>by
  obtain⟨hp,g,d,tk,os⟩:=s;obtain⟨hl,h⟩:=h;have hsub:=sub_enumerate
  wp_walk using wpAny_pyIter_list hl
  refine wpAny_stack_any fun _=>wpAny_pure ?_;split
  ·rename_i z _ _ _ _ _;cases (z == Value.type "enumerate") <;> (wp_walk using wpAny_pyIter_list hl) <;> exact⟨_,rfl,h⟩
  ·wp_walk using wpAny_pyIter_list hl
   exact⟨_,rfl,h⟩
section
variable {prog:Program}{w:World}{A:Around}{E:Value->Shared->Prop}{s:Shared}
theorem Bu {t:Addr}{its:Array Value}{Q:Value->Shared->Prop}(ht:s.heap.IsList t its)
  (h:∀h',IsEnum h' (s.heap.objs.size+1) s.heap.objs.size 0 .none->h'.IsListIter s.heap.objs.size t 0->(∀b o,s.heap.get? b=some o->h'.get? b=some o)->Q (.ref (s.heap.objs.size+1)) {s with heap:=h' }) :
  wpAny (model prog w) A (call (.type "enumerate") [.ref t]) Q E s:=by
 refine callType_new F.called_enumerate (by decide) (F.typeCall_enumerate_1 _) (F.newCall_enumerate_1 _) (fun ad=>F.args_object_init_2 ad _) F.entry_enumerate_new (Bt t its) ⟨ht,?_⟩;have hz:(s.heap.push (litO t)).objs.size=s.heap.objs.size+1:=Heap.size_push ..;show _∧_;rw[hz];have he:IsEnum ((s.heap.push (litO t)).push (enuO s.heap.objs.size)) (s.heap.objs.size+1) s.heap.objs.size 0 .none:=by have:=Heap.get?_push_size (s.heap.push (litO t)) (o:=enuO s.heap.objs.size) rfl;rw[hz] at this;exact this
 exact⟨⟨_,he,rfl⟩,h _ he ⟨_,Heap.get?_push_of_some _ (Heap.get?_push_size _ rfl),rfl,rfl⟩ fun b o x=>Heap.get?_push_of_some _ (Heap.get?_push_of_some _ x)⟩
end
noncomputable def ItEL (K:W.Frag)(a:Addr)(xs:List V):It:=ItW xs.length (fun H=>SqL K H a xs) fun i _ ys=>∃v,xs[i]?=some v∧ys=[.int (i:Int),v]
theorem Bv {P:Program}{w:World}{K:W.Frag}{elts:List Expr}{k:Nat}{pos:Pos}(a it e:Addr)(xs:List V)(h1:a≠it)(h2:e≠it)(h3:e≠a) :
  Turn P w K (.Tuple elts k pos) (ItEL K a xs) [e,it] e (fun i h=>(∃old,IsEnum h e it i old)∧h.IsListIter it a i):=by
 refine jP (fp:=e::[it,a]) (α:={ dl:Array Value // dl.size=xs.length}) (Pt:=fun z i ad=>∃t x,z.1[i]?=some x∧ad=#[.int i t,x])
  (Sn:=fun z i h=>(∃old,IsEnum h e it i old)∧(h.IsListIter it a i∧h.IsList a z.1)) (Mid:=fun z i T h=>(∃x,IsEnumOut h e it ((i:Int)+1) x T)∧(h.IsListIter it a (i+1)∧h.IsList a z.1)∧T≠e∧T≠it)
  (by simp) (fun _ z=>z) (fun A z hh=>?_) (fun A i s Q E st q=>?_) (fun i h st b hb=>?_) (fun i h h' st kp=>?_) ?_ (fun z i h st=>⟨st.1,st.2.1⟩)
 ·have:=WalksT.enumerateD (Draws.list (prog:=P) (w:=w) (A:=A.in1) hh it a h1 z.1) e h2 (by simp[h2,h3]) (by simp);rw[z.2] at this;exact this
 ·obtain⟨⟨old,he⟩,_⟩:=st;exact wpAny_pyIter_enum he q
 ·obtain⟨⟨old,he⟩,o,ho,hc,hd⟩:=st;rcases mem_cons.mp hb with rfl|hb
  ·exact⟨_,he,fun v z=>by cases z⟩
  ·rw[mem_singleton.mp hb];exact⟨o,ho,fun v z=>by rw[hd] at z;cases z⟩
 ·obtain⟨⟨old,he⟩,o,ho,r⟩:=st;exact⟨⟨old,kp e (by simp) _ he⟩,o,kp it (by simp) o ho,r⟩
 ·intro X hP hw hK i mt s σ H J hf st BT;subst hP hw hK;obtain⟨dl,rv,p,hz⟩:=J.list BT;refine⟨⟨dl.toArray,by have:=rv.length;simp;lia⟩,⟨st.1,st.2,p.isList⟩,?_⟩;rintro ad ⟨t,x,hx,rfl⟩;have ld:dl[i]?=some x:=by simpa using hx
  have hi:i < xs.length:=by have:=rv.length;have:=(List.getElem?_eq_some_iff.mp ld).1;lia
  obtain⟨u,hu,ru⟩:=rv.get (List.getElem?_eq_getElem hi);rw[ld] at hu;cases hu;exact⟨[.int (i:Int),xs[i]],(show 2≤sizeLine by decide),.cons ⟨t,rfl⟩ (.cons ru .nil),xs[i],List.getElem?_eq_getElem hi,rfl⟩
section
variable {X:Cx}{K:W.Frag}{elts:List Expr}{kk:Nat}{tpos:Pos}
noncomputable def iEnumL (K:W.Frag)(ta:TA):TI:=fun σ H R=>ta σ H fun vs H1=>∃a xs,vs=[.ref a]∧SqL K H1 a xs∧R (ItEL K a xs) H1
theorem Bw {a:Expr}{ta:TA}{p pos:Pos}(h:X.K=K)(hg:Gl X "enumerate")(hm:X.mg "enumerate"=none)(ha:PA X [a] ta)(hs:starEach [a] X.env=[(false,eval a X.env)]:=by rfl):PI X (.Tuple elts kk tpos) (.Call (.Name "enumerate" p) [a] [] pos) (iEnumL K ta):=by
 subst h;intro ad s σ H R I q;refine Call_ (bt I hg hm boot_enumerate (PyProof.Rows.callWith_type1 (thn (ha pos ad s σ H _ I q) fun us s1 W'=>?_) hs rfl));obtain⟨vs,H1,I1,r1,q1⟩:=W';obtain⟨a,xs,e,hq,q⟩:=q1;subst e;obtain⟨u,rfl,ru⟩:=vals1 r1;cases ru;obtain⟨BT,rv,pt,hz⟩:=I1.list hq;refine Bu pt.isList fun h' he hi hk=>?_;refine wpAny_pyIter_enum (s:={ s1 with heap:=h' }) he ?_;have mt:a < s1.heap.objs.size:=by obtain⟨o,_,ho,_⟩:=pt;exact Heap.lt_size ho
 have dl:Inv X ad σ H1 {s1 with heap:=h' }:=I1.kept (t':=s1.toks) hk;refine⟨s1.heap.objs.size+1,[s1.heap.objs.size+1,s1.heap.objs.size],_,_,H1,rfl,dl,Bv a s1.heap.objs.size (s1.heap.objs.size+1) xs (Nat.ne_of_lt mt) (Nat.succ_ne_self _) (Nat.ne_of_gt (Nat.lt_succ_of_lt mt)),⟨⟨_,he⟩,hi⟩,fun b hb=>?_,q⟩;simp only[mem_cons,not_mem_nil,or_false] at hb;have ld:s1.heap.objs.size≤b:=by
  rcases hb with rfl|rfl
  ·exact Nat.le_succ _
  ·exact Nat.le_refl _
 exact I1.fpOk ld (I1.hok.fresh ld)
variable {σ:St}{H:Hp}{D:Ends}{g:TG}{tb:TS}{aa:TA}
theorem Bx:(tFor (iEnumL K aa) g tb D σ H)=(aa σ H fun vs H1=>∃a xs,vs=[.ref a]∧SqL K H1 a xs∧LoopI (ItEL K a xs) g tb D σ H1):=rfl
theorem By {a:Addr}{xs:List V}(Pv:Nat->St->Hp->Prop)(h0:Pv 0 σ H)(hl:∀i σ H,i≤xs.length->Pv i σ H->SqL K H a xs)
  (hs:∀i v σ H T,xs[i]?=some v->Pv i σ H->H T=none->g (.ref T) σ (upd H T (.tup [.int (i:Int),v])) fun σ2 H2=>tb {D with nx:=Pv (i+1),ct:=Pv (i+1),bk:=D.nx} σ2 H2) (hd:∀σ H,Pv xs.length σ H->D.nx σ H):LoopI (ItEL K a xs) g tb D σ H:=
 oP Pv h0 hl (fun i σ H T ys _ p hT hy=>by obtain⟨v,hv,rfl⟩:=hy;exact hs i v σ H T hv p hT) hd
variable {p:Addr}{fv:St}{tt:TT}{te:TE}{Q:VK}{H1:Hp}{fr:List Nat}
theorem Bz:(tComp2 K (iEnumL K aa) fr tt te σ H Q)=(aa σ H fun vs H1=>∃a xs,vs=[.ref a]∧SqL K H1 a xs∧∀p,H1 p=none->CompI2 K (ItEL K a xs) p (frV σ fr) tt te Q H1):=rfl
theorem BA:(tComp2 K (iEnum K aa) fr tt te σ H Q)=(aa σ H fun vs H1=>∃a xs,vs=[.ref a]∧SqT K H1 a xs∧∀p,H1 p=none->CompI2 K (ItE K a xs) p (frV σ fr) tt te Q H1):=rfl
end
end L2
namespace L2
open PySem PySem.Spec PySem.W PyProof.Rows
end L2
namespace L2
open PySem PySem.Spec PySem.W PySem.Calls PyProof.Rows PySem.Builtin PySem.Builtin.ObjectAttr
noncomputable def errTail:List Value->Bool
 |.ref _::r=>errTail r
 |l=>l == vErr
noncomputable def overErr (K:Frag)(C:Addr):Bool:=(clsIn K C).any fun cd=>errTail cd.mro
section
variable {prog:Program}{w:World}{A:Around}{E:Value->Shared->Prop}{s:Shared}{K:Frag}{x C:Addr}{name:Str}{v:Value}{ox:Obj}{od:Option Obj}
end
end L2
namespace L2
open PySem PySem.Spec PySem.W PySem.Calls PyProof.Rows
noncomputable abbrev newExc (C t:Addr):Obj:={ cls:=.ref C,data:=.fields #[.ref t,.none,.none,.none,.bool false,.none]}
section
variable {prog:Program}{w:World}{A:Around}{E:Value->Shared->Prop}{h:Heap}{g:Array GenState}{d:Drawn}{t:Nat}{os:OsState}
variable {nm q:Str}{C N:Addr}{bs bm bmB:List Value}{hdct:Bool}{sn:List Str}{sub:List Value}{ab:Bool}{col:Option Bool}{dd:Option Addr}{k0 k1 k2 k3 k5:Option Value}{B newId initId:String}
end
noncomputable def exNew (e C:Addr):HO:=.ext fun h=>∃t sl,h.get? e=some ⟨.ref C,none,.fields #[.ref t,.none,.none,.none,.bool false,.none],sl⟩
noncomputable def exSet (e C d:Addr):HO:=.ext fun h=>∃t sl,h.get? e=some ⟨.ref C,some d,.fields #[.ref t,.none,.none,.none,.bool false,.none],sl⟩
noncomputable def exC (a C:Addr)(d:Option Addr):HO:=.ext fun h=>∃o,h.get? a=some o∧o.cls=.ref C∧(∀x,d=some x->o.dict=some x)∧notCls o=true
structure ExSt (K:Frag)(C:Addr)(f:Str):Prop where
 sa:findIn K (.ref C) "__setattr__"=some (some (.builtin "object.__setattr__"))
 po:overErr K C=true
 na:findIn K (.ref C) f=some none
 hd:hasDictIn K C=true
noncomputable def sFldE (K:Frag)(ta tv:TE)(f:Str):TS:=fun D σ H=>tv σ H fun y H1=>ta σ H1 fun x H2=>∃a C,x=.ref a∧H2 a=some (exNew a C)∧ExSt K C f∧∀d,H2 d=none->D.nx σ (upd (upd H2 a (exSet a C d)) d (.xd [(f,y)]))
section
variable {X:Cx}{ta tv:TE}{o value:Expr}{f:Str}{pos pos':Pos}
theorem BB {K:Frag}{D:Ends}{σ:St}{H:Hp}:(sFldE K ta tv f D σ H)=(tv σ H fun y H1=>ta σ H1 fun x H2=>∃a C,x=.ref a∧H2 a=some (exNew a C)∧ExSt K C f∧∀d,H2 d=none->D.nx σ (upd (upd H2 a (exSet a C d)) d (.xd [(f,y)]))):=rfl
end
noncomputable def forget (H:Hp)(a:Addr):Hp:=fun b=>if b=a then none else H b
structure FlownN (P:Program)(w:World)(base:Heap)(outer:List Env)(H:Hp)(s:Shared)(a t C:Addr)(d:Option Addr)(B:Heap)(H':Hp)(s':Shared):Prop where
 f:Flown P w base outer H s a t C B H' s'
 dc:∀x,d=some x->∃oe,s'.heap.get? a=some oe∧oe.dict=some x
section
variable {P:Program}{w:World}{K:Frag}{mg:Str->Option Value}{base:Heap}{N:List Str}{qual:Str}{scope:Scope}{f:Addr}{cd:Value}{A:Around}{outer:List Env}{s:Shared}{H:Hp}{E:XK}
end
structure Mk1 (K:Frag)(C f:Addr):Prop where
 ex:excInJ K C vErr vNew (some (.ref f))=true
 fn:isFn K (.ref f)=true
 kp:keepIn K (.ref C)=true
noncomputable def tRaise1 (E:XK)(C:Addr)(sp:Sp)(t:TA):TS:=fun _ σ H=>t σ H fun vs H1=>∀a,H1 a=none->sp (.ref a::vs) (upd H1 a (exNew a C)) (fun v H2=>v=.non∧∃d,H2 a=some (exSet a C d)∧E (.ref C) (some d) (forget H2 a)) E0
theorem BC {E:XK}{C:Addr}{sp:Sp}{t:TA}{D:Ends}{σ:St}{H:Hp}:(tRaise1 E C sp t D σ H)=(t σ H fun vs H1=>∀a,H1 a=none->sp (.ref a::vs) (upd H1 a (exNew a C)) (fun v H2=>v=.non∧∃d,H2 a=some (exSet a C d)∧E (.ref C) (some d) (forget H2 a)) E0):=rfl
noncomputable def tTryCall (sp:Sp)(t:TA):XK->TS:=fun Eh D σ H=>t σ H fun vs H1=>sp vs H1 (fun _ H2=>D.nx σ H2) Eh
noncomputable def tTryN (K:Frag)(t:XK->TS)(W:Addr)(i:Nat)(tb:TS):TS:=fun D σ H=>t (fun cls d H2=>
 ∃C,cls=.ref C∧subIn K (.ref C) (.ref W)=some true∧∀a,H2 a=none->tb {nx:=fun σ' H'=>D.nx (σ'.set i none) H',rt:=D.rt} (σ.set i (some (.ref a))) (upd H2 a (exC a C d))) {nx:=D.nx,rt:=D.rt} σ H
theorem BD {K:Frag}{t:XK->TS}{W:Addr}{i:Nat}{tb:TS}{D:Ends}{σ:St}{H:Hp}:tTryN K t W i tb D σ H↔t (fun cls d H2=>
 ∃C,cls=.ref C∧subIn K (.ref C) (.ref W)=some true∧∀a,H2 a=none->tb {nx:=fun σ' H'=>D.nx (σ'.set i none) H',rt:=D.rt} (σ.set i (some (.ref a))) (upd H2 a (exC a C d))) {nx:=D.nx,rt:=D.rt} σ H:=Iff.rfl
theorem BE {sp:Sp}{t:TA}{Eh:XK}{D:Ends}{σ:St}{H:Hp}:(tTryCall sp t Eh D σ H)=(t σ H fun vs H1=>sp vs H1 (fun _ H2=>D.nx σ H2) Eh):=rfl
noncomputable def rIsX (K:Frag):List V->Hp->VK->Prop:=fun vs H Q=>∃a c C d b,vs=[.ref a,c]∧H a=some (exC a C d)∧ExLook K C∧KitAns K H C c b∧Q (.bl b) H
theorem BF {K:Frag}{a:Addr}{c:V}{H:Hp}{Q:VK}:rIsX K [.ref a,c] H Q↔∃C d b,H a=some (exC a C d)∧ExLook K C∧KitAns K H C c b∧Q (.bl b) H:=
 ⟨fun⟨_,_,C,d,b,e,h⟩=>by cases e;exact⟨C,d,b,h⟩,fun⟨C,d,b,h⟩=>⟨a,c,C,d,b,rfl,h⟩⟩
end L2
namespace L2
open PySem PySem.Spec PySem.W PySem.Calls PyProof.Rows PySem.Builtin PySem.Builtin.ObjectAttr
section
variable {prog:Program}{w:World}{A:Around}{E:Value->Shared->Prop}{hh:Heap}{g:Array GenState}{dr:Drawn}{t:Nat}{os:OsState}{K:Frag}{a C:Addr}{o:Obj}{od:Option Obj}{name:Str}{v:Value}
end
structure ExFld (K:Frag)(C:Addr)(f:Str):Prop where
 look:ExLook K C
 na:findIn K (.ref C) f=some none
 hd:hasDictIn K C=true
noncomputable def tFldE (K:Frag)(te:TE)(f:Str):TE:=fun σ H Q=>te σ H fun x H1=>∃a C d fs v,x=.ref a∧H1 a=some (exC a C (some d))∧H1 d=some (.xd fs)∧ExFld K C f∧fs.lookup f=some v∧Q v H1
theorem BG {K:Frag}{te:TE}{f:Str}{σ:St}{H:Hp}{Q:VK}:(tFldE K te f σ H Q)=(te σ H fun x H1=>∃a C d fs v,x=.ref a∧H1 a=some (exC a C (some d))∧H1 d=some (.xd fs)∧ExFld K C f∧fs.lookup f=some v∧Q v H1):=rfl
end L2
namespace L2
open PySem PySem.Spec PySem.W PySem.Calls PyProof.Rows
section
variable {P:Program}{w:World}{K:Frag}{mg:Str->Option Value}{base:Heap}{j k:Nat}{A:Around}{outer:List Env}{s:Shared}{H:Hp}{E:XK}
structure RoomU (k:Nat)(A:Around):Prop where
 dp:A.depth+3 * k+5 < recursionLimit
 un:A.units+16 * k+200 < cLine
structure FnU (P:Program)(w:World)(K:Frag)(mg:Str->Option Value)(base:Heap)(k:Nat)(f:Addr)(fd:FuncData)(ps:List Str)(sp:Sp):Prop where
 len:∀vs H Q E,sp vs H Q E->vs.length=ps.length
 go:∀(A:Around) (outer:List Env) (s:Shared) (H:Hp) (args:Args) (us:List Value) (vs:List V) (Q:VK) (E:XK),RoomU k A->Env0 P w K mg base A outer s H->BindsTo s fd args (ps.zip us)->Vals vs us->sp vs H Q E ->
  codeAny (model P w) A (.call (.ref f) args) (CR CX0 outer P w H s Q E) s
end
section
variable {X:Cx}
noncomputable def tTryIf (tc:TT)(ta tb:XK->TS):XK->TS:=fun Eh D σ H=>tc σ H fun b H1=>if b=true then ta Eh D σ H1 else tb Eh D σ H1
theorem BH {tc:TT}{ta tb:XK->TS}{Eh:XK}{D:Ends}{σ:St}{H:Hp}:(tTryIf tc ta tb Eh D σ H)=(tc σ H fun b H1=>if b=true then ta Eh D σ H1 else tb Eh D σ H1):=rfl
noncomputable def tTryE (sp:Sp)(t:TA):XK->TE:=fun Eh σ H Q=>t σ H fun vs H1=>sp vs H1 Q Eh
noncomputable def tTryP (ta:TE)(te:XK->TE):XK->TE:=fun Eh σ H Q=>ta σ H fun x H1=>te Eh σ H1 fun y H2=>∀p H',H2 p=none->Same H2 H'->H' p=some (.tup [x,y])->Q (.ref p) H'
noncomputable def tTryS (i:Nat)(te:XK->TE):XK->TS:=fun Eh D σ H=>te Eh σ H fun v H1=>D.nx (σ.set i (some v)) H1
theorem BI {sp:Sp}{t:TA}{Eh:XK}{σ:St}{H:Hp}{Q:VK}:(tTryE sp t Eh σ H Q)=(t σ H fun vs H1=>sp vs H1 Q Eh):=rfl
theorem BJ {ta:TE}{te:XK->TE}{Eh:XK}{σ:St}{H:Hp}{Q:VK}:(tTryP ta te Eh σ H Q)=(ta σ H fun x H1=>te Eh σ H1 fun y H2=>∀p H',H2 p=none->Same H2 H'->H' p=some (.tup [x,y])->Q (.ref p) H'):=rfl
theorem BK {i:Nat}{te:XK->TE}{Eh:XK}{D:Ends}{σ:St}{H:Hp}:(tTryS i te Eh D σ H)=(te Eh σ H fun v H1=>D.nx (σ.set i (some v)) H1):=rfl
end
end L2
namespace L2
open PySem
end L2
namespace Wm
open PySem L2
noncomputable abbrev Rs (α:Type):=Except Nat (α×Nat)
noncomputable def mp {α β:Type}(f:α->β):Rs α->Rs β
 |.ok (a,n)=>.ok (f a,n)
 |.error n=>.error n
noncomputable def pre {α:Type}(c:α)(k:Nat):Rs (List α)->Rs (List α)
 |.ok (l,n)=>.ok (c::l,k+n)
 |.error n=>.error (k+n)
section
variable {α β γ:Type}
end
section
variable {t:List Nat}{h:Option (List Nat)}{d:Option Int}{w:Bool×List (List Nat)×Bool}{q:Option (List (List Nat×Option (List Nat)))}{m:Option (List Nat)}{n n1 n2 n3 n4 n5:Nat}
end
section
variable {r:List Nat}{n:Nat}
end
section
variable {r:List Nat}{n:Nat}
end
end Wm
namespace L2
open PySem PySem.Spec PyProof.Rows
section
variable {X:Cx}
noncomputable def rStart1:V->List V->Hp->VK->Prop:=fun x vs H Q=>∃z y:List Nat,x=.str ⟨z.toArray⟩∧vs=[.str ⟨y.toArray⟩]∧Q (.bl (decide (z.take y.length=y))) H
noncomputable def rEnd1:V->List V->Hp->VK->Prop:=fun x vs H Q=>∃z y:List Nat,x=.str ⟨z.toArray⟩∧vs=[.str ⟨y.toArray⟩]∧Q (.bl (decide (z.drop (z.length - y.length)=y))) H
theorem oR (z y:List Nat)(i:Nat):Builtin.Str.subAt ⟨z.toArray⟩ ⟨y.toArray⟩ i=decide ((z.drop i).take y.length=y):=by unfold Builtin.Str.subAt;have hl:(⟨y.toArray⟩:Str).length=y.length:=rfl;rw[hl,Bool.eq_iff_iff,beq_iff_eq,decide_eq_true_eq];show (z.toArray.extract i (i+y.length)=y.toArray)↔_;rw[<- Array.toList_inj];simp
theorem BL (z y:List Nat):(decide (0+(⟨y.toArray⟩:Str).length≤(⟨z.toArray⟩:Str).length) && Builtin.Str.subAt ⟨z.toArray⟩ ⟨y.toArray⟩ 0)=decide (z.take y.length=y):=by
 rw[oR,drop_zero];show (decide (0+y.length≤z.length) && _)=_;by_cases h:z.take y.length=y
 ·have:=congrArg List.length h;rw[length_take] at this;rw[decide_eq_true h,decide_eq_true (show 0+y.length≤z.length by lia)];rfl
 ·rw[decide_eq_false h,Bool.and_false]
theorem BM (z y:List Nat):(decide (0+(⟨y.toArray⟩:Str).length≤(⟨z.toArray⟩:Str).length) && Builtin.Str.subAt ⟨z.toArray⟩ ⟨y.toArray⟩ ((⟨z.toArray⟩:Str).length - (⟨y.toArray⟩:Str).length))=decide (z.drop (z.length - y.length)=y):=by
 rw[oR];show (decide (0+y.length≤z.length) && decide ((z.drop (z.length - y.length)).take y.length=y))=_;have e:(z.drop (z.length - y.length)).length≤y.length->(z.drop (z.length - y.length)).take y.length=z.drop (z.length - y.length):=fun h=>take_of_length_le h;rw[e (by rw[length_drop];lia)];by_cases h:z.drop (z.length - y.length)=y
 ·have:=congrArg List.length h;rw[length_drop] at this;rw[decide_eq_true h,decide_eq_true (show 0+y.length≤z.length by lia)];rfl
 ·rw[decide_eq_false h,Bool.and_false]
theorem oS:MtR X "str.startswith" rStart1:=by intro ad s σ H x vs v us Q I rx rv h;obtain⟨z,y,rfl,rfl,q⟩:=h;obtain⟨t,rfl⟩:=rx;obtain⟨u,rfl,t',rfl⟩:=vals1 rv;refine call_meets F.slot_str_startswith (typeIs_str _ _ _) F.entry_str_startswith (F.args_str_startswith_2 _ _) (gives_str_startswith _ _ t t').meets ?_;refine⟨.bl _,H,I,rfl,?_⟩;rw[<- BL] at q;exact q
theorem BN:MtR X "str.endswith" rEnd1:=by intro ad s σ H x vs v us Q I rx rv h;obtain⟨z,y,rfl,rfl,q⟩:=h;obtain⟨t,rfl⟩:=rx;obtain⟨u,rfl,t',rfl⟩:=vals1 rv;refine call_meets F.slot_str_endswith (typeIs_str _ _ _) F.entry_str_endswith (F.args_str_endswith_2 _ _) (gives_str_endswith _ _ t t').meets ?_;refine⟨.bl _,H,I,rfl,?_⟩;rw[<- BM] at q;exact q
theorem BO {i j:Nat}{ta:TA}{D:Ends}{σ:St}{H:Hp}:(tPar i j ta D σ H)=(ta σ H fun vs H1=>∃v w,vs=[v,w]∧D.nx ((σ.set i (some v)).set j (some w)) H1):=rfl
theorem oU {z y:List Nat}{H:Hp}{Q:VK}:rStart1 (.str ⟨z.toArray⟩) [.str ⟨y.toArray⟩] H Q↔Q (.bl (decide (z.take y.length=y))) H:=
 ⟨fun⟨z',y',e1,e2,h⟩=>by
  injection e1 with e1;injection e1 with e1;injection e2 with e2;injection e2 with e2;injection e2 with e2;have h1:z=z':=by simpa using congrArg Array.toList e1
  have h2:y=y':=by simpa using congrArg Array.toList e2
  subst h1 h2;exact h,fun h=>⟨z,y,rfl,rfl,h⟩⟩
theorem oW {z y:List Nat}{H:Hp}{Q:VK}:rEnd1 (.str ⟨z.toArray⟩) [.str ⟨y.toArray⟩] H Q↔Q (.bl (decide (z.drop (z.length - y.length)=y))) H:=
 ⟨fun⟨z',y',e1,e2,h⟩=>by
  injection e1 with e1;injection e1 with e1;injection e2 with e2;injection e2 with e2;injection e2 with e2;have h1:z=z':=by simpa using congrArg Array.toList e1
  have h2:y=y':=by simpa using congrArg Array.toList e2
  subst h1 h2;exact h,fun h=>⟨z,y,rfl,rfl,h⟩⟩
end
end L2
namespace L2
open PySem
section
variable {p:Addr}{fv:St}{tt:TT}{te:TE}{Q:VK}{H1:Hp}{K:W.Frag}
end
end L2
namespace Wm
open PySem L2
inductive Pc
 |step (s:List Nat)
 |part (h n t:List Nat)
 |num (n:List Nat)
 |word (n:List Nat)
 |gap (n:List Nat)
 |rest (n:List Nat)
noncomputable abbrev tV (l:List Nat):V:=.str ⟨l.toArray⟩
noncomputable def Pc.kw:Pc->Str
 |.step _=>Str.ofString "step"
 |.part ..=>Str.ofString "part"
 |.num _=>Str.ofString "number"
 |.word _=>Str.ofString "word"
 |.gap _=>Str.ofString "gap"
 |.rest _=>Str.ofString "rest"
noncomputable def Pc.tl:Pc->List V
 |.step s=>[tV s]
 |.part h n t=>[tV h,tV n,tV t]
 |.num n=>[tV n]
 |.word n=>[tV n]
 |.gap n=>[tV n]
 |.rest n=>[tV n]
noncomputable def Pc.vals (c:Pc):List V:=.str c.kw::c.tl
noncomputable def Pc.name:Pc->List Nat
 |.step _=>[]
 |.part _ n _=>n
 |.num n=>n
 |.word n=>n
 |.gap n=>n
 |.rest n=>n
noncomputable def Pc.head:Pc->List Nat|.part h _ _=>h|_=>[]
noncomputable def Pc.tail:Pc->List Nat|.part _ _ t=>t|_=>[]
noncomputable def Pc.isStep:Pc->Bool|.step _=>true|_=>false
noncomputable def Pc.isPart:Pc->Bool|.part ..=>true|_=>false
noncomputable def Pc.isNum:Pc->Bool|.num _=>true|_=>false
noncomputable def Pc.isWord:Pc->Bool|.word _=>true|_=>false
noncomputable def Pc.isRest:Pc->Bool|.rest _=>true|_=>false
theorem Pc.at0 (c:Pc):atI c.vals 0=some (.str c.kw):=aG (j:=0) rfl
theorem jR (c:Pc):decide (c.kw=Str.ofString "step")=c.isStep:=by cases c <;> first|exact decide_eq_true rfl|exact decide_eq_false (show ¬ (Str.ofString _=Str.ofString _) by decide +kernel)
theorem cK (c:Pc):decide (c.kw=Str.ofString "part")=c.isPart:=by cases c <;> first|exact decide_eq_true rfl|exact decide_eq_false (show ¬ (Str.ofString _=Str.ofString _) by decide +kernel)
theorem cL (c:Pc):decide (c.kw=Str.ofString "number")=c.isNum:=by cases c <;> first|exact decide_eq_true rfl|exact decide_eq_false (show ¬ (Str.ofString _=Str.ofString _) by decide +kernel)
theorem jS (c:Pc):decide (c.kw=Str.ofString "word")=c.isWord:=by cases c <;> first|exact decide_eq_true rfl|exact decide_eq_false (show ¬ (Str.ofString _=Str.ofString _) by decide +kernel)
theorem dz (c:Pc):decide (c.kw=Str.ofString "rest")=c.isRest:=by cases c <;> first|exact decide_eq_true rfl|exact decide_eq_false (show ¬ (Str.ofString _=Str.ofString _) by decide +kernel)
noncomputable def isFig (c:Nat):Bool:=decide (48≤c∧c≤57)
noncomputable def isSma (c:Nat):Bool:=decide (97≤c∧c≤122)
noncomputable def numB (l:List Nat):Bool:=decide (1≤l.length) && decide (l.length≤60) && l.all isFig && (decide (l=[48]) || !decide (l.head?=some 48))
noncomputable def wordB (l:List Nat):Bool:=decide (1≤l.length) && decide (l.length≤60) && l.all isSma
noncomputable def partB (h t s:List Nat):Bool:=decide (s.take h.length=h) && (decide (s.drop (s.length - t.length)=t) && decide (h.length+t.length < s.length))
noncomputable def fitsM (c:Pc)(s:List Nat):Bool:=!isDot s && match c with
 |.step w=>decide (s=w)
 |.part h _ t=>partB h t s
 |.num _=>numB s
 |.word _=>wordB s
 |.gap _=>true
 |.rest _=>true
inductive Vl
 |txt (l:List Nat)
 |int (i:Int)
 |lst (ls:List (List Nat))
noncomputable def intOf (l:List Nat):Int:=(PySem.intText? ⟨l.toArray⟩).getD 0
noncomputable def amid (h t s:List Nat):List Nat:=(s.drop h.length).take (s.length - t.length - h.length)
noncomputable def bvM (c:Pc)(ss:List (List Nat)):Vl:=match c with
 |.rest _=>.lst ss
 |.num _=>.int (intOf (ss.headD []))
 |_=>.txt (amid c.head c.tail (ss.headD []))
noncomputable def VlV (H:Hp):Vl->V->Prop
 |.txt l,v=>v=tV l
 |.int i,v=>v=.int i
 |.lst ls,v=>∃p,v=.ref p∧H p=some (.lst (ls.map tV))
theorem VlV.mono {H H':Hp}(s:Same H H'):∀{x:Vl}{v:V},VlV H x v->VlV H' x v
 |.txt _,_,h=>h
 |.int _,_,h=>h
 |.lst _,_,⟨p,e,h⟩=>⟨p,e,s _ _ h⟩
theorem BP {l:List Nat}(h:l.all isFig=true)(h0:1≤l.length)(h1:l.length≤60):PySem.intText? ⟨l.toArray⟩=some (intOf l):=by
 have e:=intText_digits (x:=⟨l.toArray⟩) (fun c hc=>by have:=all_eq_true.mp h c (by simpa using hc);simpa [isFig] using this) (by intro z;simp at z;rw[z] at h0;simp at h0) (by show l.length≤4300;lia)
 unfold intOf;rw[e];rfl
inductive PcAll (K:W.Frag)(H:Hp):List Pc->List V->Prop
 |nil:PcAll K H [] []
 |cons {c:Pc}{p:Addr}{cs:List Pc}{xs:List V}:SqT K H p c.vals->PcAll K H cs xs->PcAll K H (c::cs) (.ref p::xs)
theorem PcAll.mono {K:W.Frag}{H H':Hp}(s:Same H H'){cs:List Pc}{xs:List V}(hh:PcAll K H cs xs):PcAll K H' cs xs:=by
 induction hh with
 |nil=>exact .nil
 |cons h r ih=>exact .cons (s.tup h) ih
theorem PcAll.length {K:W.Frag}{H:Hp}{cs:List Pc}{xs:List V}(hh:PcAll K H cs xs):xs.length=cs.length:=by
 induction hh with
 |nil=>exact rfl
 |cons _ r ih=>simp[ih]
theorem PcAll.get {K:W.Frag}{H:Hp}{cs:List Pc}{xs:List V}(hh:PcAll K H cs xs){i:Nat}{v:V}(e:xs[i]?=some v):∃c p,cs[i]?=some c∧v=.ref p∧SqT K H p c.vals:=by
 induction hh generalizing i with
 |nil=>cases e
 |cons h _ ih=>
  cases i with
  |zero=>cases e;exact⟨_,_,rfl,rfl,h⟩
  |succ i=>exact ih e
theorem PcAll.append {K:W.Frag}{H:Hp}{ds:List Pc}{ys:List V}(h2:PcAll K H ds ys){cs:List Pc}{xs:List V}(hh:PcAll K H cs xs):PcAll K H (cs++ds) (xs++ys):=by
 induction hh with
 |nil=>exact h2
 |cons h r ih=>exact .cons h ih
noncomputable def hasRest (cs:List Pc):Bool:=match cs.getLast? with
 |some c=>c.isRest
 |none=>false
noncomputable def smaL:List Nat:=(Str.ofString "abcdefghijklmnopqrstuvwxyz").cps.toList
theorem oX:∀c,c < 128->(c∈smaL↔isSma c=true):=by decide +kernel
theorem oY:∀c∈smaL,c < 128:=by decide +kernel
theorem oZ (l:List Nat):l.all isSma=l.all fun c=>decide (c∈smaL):=by
 congr 1
 funext c
 by_cases h:c < 128
 ·rw[Bool.eq_iff_iff,decide_eq_true_eq];exact (oX c h).symm
 ·have h1:¬ c∈smaL:=fun z=>h (oY c z);rw[decide_eq_false h1];unfold isSma;exact decide_eq_false (by lia)
theorem BQ (l:List Nat):(l.all fun c=>decide (c∈fgS))=l.all isFig:=by
 congr 1
 funext c
 unfold isFig;exact decide_eq_decide.mpr gN
theorem PcAll.last {K:W.Frag}{H:Hp}{cs:List Pc}{xs:List V}{c:Pc}(h:PcAll K H cs xs)(hc:cs.getLast?=some c):∃v,atI xs (-1)=some v∧∃p,v=.ref p∧SqT K H p c.vals:=by
 have hl:=h.length;have hn:cs≠[]:=by rintro rfl;cases hc
 have hp:=length_pos_iff.mpr hn;obtain⟨v,hx⟩:∃v,xs[cs.length - 1]?=some v:=⟨_,List.getElem?_eq_getElem (by lia)⟩;obtain⟨d,p,e1,e2,e3⟩:=h.get hx;rw[List.getLast?_eq_getElem?] at hc;rw[hc] at e1;cases e1;refine⟨v,?_,p,e2,e3⟩;have hg:xs.getLast?=some v:=by rw[List.getLast?_eq_getElem?,hl];exact hx
 have:=nX (l:=xs) (fun v=>v) hg;simpa using this
noncomputable def spreadM (cs:List Pc)(n:Nat):Option (List Pc):=if hasRest cs=true∧cs.length≤n then some (cs++(List.replicate (n - cs.length) (cs.drop (cs.length - 1))).flatten) else if n=cs.length then some cs else none
theorem gQ (s:List Nat):amid [] [] s=s:=by unfold amid;simp
noncomputable def fitsP (cs:List Pc)(cl r:Bool)(ss:List (List Nat))(e:Bool):Bool:=match spreadM cs ss.length with
 |none=>false
 |some ds=>r && decide (e=cl) && (List.zipWith fitsM ds ss).all id
noncomputable def boundM:List Pc->List (List Nat)->List (List Nat×Vl)
 |[],_=>[]
 |c::cs,ss=>(if c.isStep then [] else [(c.name,bvM c ss)])++boundM cs (ss.drop 1)
inductive BndV (H:Hp)(l:Addr):List (List Nat×Vl)->List V->Prop
 |nil:BndV H l [] []
 |cons {n:List Nat}{x:Vl}{p:Addr}{v:V}{bs:List (List Nat×Vl)}{ys:List V}:H p=some (.tup [tV n,v])->VlV H x v->(∀q,v=.ref q->q≠l)->BndV H l bs ys->BndV H l ((n,x)::bs) (.ref p::ys)
theorem BndV.mono {H H':Hp}{l:Addr}(s:Same H H'){bs:List (List Nat×Vl)}{ys:List V}(hh:BndV H l bs ys):BndV H' l bs ys:=by
 induction hh with
 |nil=>exact .nil
 |cons h v n r ih=>exact .cons (s _ _ h) (v.mono s) n ih
theorem VlV.upd {H:Hp}{l:Addr}{o:HO}:∀{x:Vl}{v:V},VlV H x v->(∀q,v=.ref q->q≠l)->VlV (L2.upd H l o) x v
 |.txt _,_,h,_=>h
 |.int _,_,h,_=>h
 |.lst _,_,⟨p,e,h⟩,hn=>⟨p,e,by rw[aN (hn p e)];exact h⟩
theorem BndV.upd {H:Hp}{l:Addr}{o:HO}{xs:List V}(hl:H l=some (.lst xs)){bs:List (List Nat×Vl)}{ys:List V}(hh:BndV H l bs ys):BndV (L2.upd H l o) l bs ys:=by
 induction hh with
 |nil=>exact .nil
 |cons h v n r ih=>exact .cons (by rw[aN (ib h hl (by intro z;cases z))];exact h) (v.upd n) n ih
theorem BndV.snoc {H:Hp}{l:Addr}{n:List Nat}{x:Vl}{p:Addr}{v:V}(h:H p=some (.tup [tV n,v]))(hv:VlV H x v)(hn:∀q,v=.ref q->q≠l){bs:List (List Nat×Vl)}{ys:List V}(hh:BndV H l bs ys):BndV H l (bs++[(n,x)]) (ys++[.ref p]):=by
 induction hh with
 |nil=>exact .cons h hv hn .nil
 |cons a b c r ih=>exact .cons a b c ih
theorem BndV.length {H:Hp}{l:Addr}{bs:List (List Nat×Vl)}{ys:List V}(hh:BndV H l bs ys):ys.length=bs.length:=by
 induction hh with
 |nil=>exact rfl
 |cons _ _ _ r ih=>simp[ih]
theorem oa:∀(cs:List Pc) (ss:List (List Nat)),(boundM cs ss).length≤cs.length
 |[],_=>Nat.le_refl _
 |c::cs,ss=>by have:=oa cs (ss.drop 1);unfold boundM;rw[length_append];split <;> simp only[length_nil,length_cons] <;> lia
theorem og:∀(cs:List Pc) (ss:List (List Nat)) (i:Nat) (c:Pc),cs[i]?=some c->boundM (cs.take (i+1)) ss=boundM (cs.take i) ss++(if c.isStep then [] else [(c.name,bvM c (ss.drop i))])
 |[],ss,i,c,h=>by simp at h
 |d::cs,ss,0,c,h=>by cases h;show _++boundM (cs.take 0) (ss.drop 1)=boundM [] ss++_;simp[boundM]
 |d::cs,ss,i+1,c,h=>by have:=og cs (ss.drop 1) i c (by simpa using h);show _++boundM (cs.take (i+1)) (ss.drop 1)=(_++boundM (cs.take i) (ss.drop 1))++_;rw[this,append_assoc,drop_drop,Nat.add_comm 1 i]
theorem oh {cs ds:List Pc}{n:Nat}(h:spreadM cs n=some ds):cs.length≤n∧∃es,ds=cs++es:=by
 unfold spreadM at h;split at h
 ·rename_i hh;cases h;exact⟨hh.2,_,rfl⟩
 ·split at h
  ·rename_i hh;cases h;exact⟨by lia,[],by simp⟩
  ·cases h
theorem oi {cs:List Pc}{cl r e:Bool}{ss:List (List Nat)}(h:fitsP cs cl r ss e=true){i:Nat}{c:Pc}(hc:cs[i]?=some c):∃s,ss[i]?=some s∧fitsM c s=true:=by
 unfold fitsP at h;split at h
 ·cases h
 ·rename_i ds hd;obtain⟨hl,es,rfl⟩:=oh hd;have hi:=(List.getElem?_eq_some_iff.mp hc).1;have hs:ss[i]?=some ss[i]:=List.getElem?_eq_getElem (by lia);refine⟨_,hs,?_⟩;have ha:=(Bool.and_eq_true _ _▸h).2;have hz:(List.zipWith fitsM (cs++es) ss)[i]?=some (fitsM c ss[i]):=by rw[List.getElem?_zipWith,List.getElem?_append_left hi,hc,hs]
  exact all_eq_true.mp ha _ (mem_of_getElem? hz)
theorem jT {n s:List Nat}(h:fitsM (.num n) s=true):1≤s.length∧s.length≤60∧s.all isFig=true:=by unfold fitsM numB at h;simp only[Bool.and_eq_true,decide_eq_true_eq] at h;exact⟨h.2.1.1.1,h.2.1.1.2,h.2.1.2⟩
theorem BR {h n t s:List Nat}(hf:fitsM (.part h n t) s=true):(Pc.part h n t).head.length+(Pc.part h n t).tail.length≤s.length:=by unfold fitsM partB at hf;simp only[Bool.and_eq_true,decide_eq_true_eq] at hf;have:=hf.2.2.2;show h.length+t.length≤s.length;lia
theorem jU (xs:List V):cutV xs (some (-1)) none=xs.drop (xs.length - 1):=by
 unfold cutV;rw[HT.sIx_none];have e:HT.sIx xs.length 0 (some (-1))=xs.length - 1:=by unfold HT.sIx;simp only[if_pos (show (-1:Int) < 0 by decide)];lia
 rw[e,take_of_length_le (by rw[length_drop];lia)]
theorem PcAll.drop {K:W.Frag}{H:Hp}:∀{cs:List Pc}{xs:List V},PcAll K H cs xs->∀i,PcAll K H (cs.drop i) (xs.drop i)
 |_,_,h,0=>h
 |_,_,.nil,i+1=>.nil
 |_,_,.cons _ r,i+1=>r.drop i
theorem PcAll.reps {K:W.Frag}{H:Hp}{cs:List Pc}{xs:List V}(h:PcAll K H cs xs):∀m:Nat,PcAll K H (List.replicate m cs).flatten (List.replicate m xs).flatten
 |0=>.nil
 |m+1=>by rw[replicate_succ,replicate_succ,flatten_cons,flatten_cons];exact (h.reps m).append h
theorem BS {α:Type}(xs:List α)(m:Nat)(h:xs.length≤1):(List.replicate m xs).flatten.length≤m:=by
 induction m with
 |zero=>simp
 |succ m ih=>rw[replicate_succ,flatten_cons,length_append];lia
noncomputable def PcSz (cs:List Pc):Prop:=∀c∈cs,c.head.length≤100000∧c.tail.length≤100000
theorem BU {cs ds:List Pc}{n:Nat}(h:spreadM cs n=some ds):∀c∈ds,c∈cs:=by
 unfold spreadM at h;split at h
 ·cases h;intro c hc;rcases mem_append.mp hc with hc|hc
  ·exact hc
  ·obtain⟨l,hl,hc⟩:=List.mem_flatten.mp hc;rw[List.eq_of_mem_replicate hl] at hc;exact List.mem_of_mem_drop hc
 ·split at h
  ·cases h;exact fun c hc=>hc
  ·cases h
theorem oj {cs ds:List Pc}{n:Nat}(h:spreadM cs n=some ds):ds.length=n:=by
 unfold spreadM at h;split at h
 ·rename_i hh;cases h;have ad:cs≠[]:=by rintro rfl;exact absurd hh.1 (by decide)
  have hp:=length_pos_iff.mpr ad;have e:∀m,(List.replicate m (cs.drop (cs.length - 1))).flatten.length=m:=fun m=>by
   induction m with
   |zero=>simp
   |succ m ih=>rw[replicate_succ,flatten_cons,length_append,ih,length_drop];lia
  rw[length_append,e];lia
 ·split at h
  ·rename_i hh;cases h;lia
  ·cases h
theorem eA (xs:List V)(i:Nat):cutV xs (some (i:Int)) none=xs.drop i:=by
 unfold cutV;rw[HT.sIx_none,HT.sIx_nat];by_cases h:i≤xs.length
 ·rw[Nat.min_eq_left h,take_of_length_le (by rw[length_drop];lia)]
 ·rw[Nat.min_eq_right (by lia),List.drop_of_length_le (Nat.le_refl _),List.drop_of_length_le (by lia)];simp
theorem BV (i:Int):∃c,atI smaL (i % 26)=some c∧isSma c=true:=by
 have h1:=Int.emod_nonneg i (show (26:Int)≠0 by decide);have h2:=Int.emod_lt_of_pos i (show (0:Int) < 26 by decide);have hl:smaL.length=26:=by decide +kernel
 have h3:(i % 26).toNat < smaL.length:=by lia
 refine⟨smaL[(i % 26).toNat],?_,(oX _ (oY _ (getElem_mem h3))).mp (getElem_mem h3)⟩;have:=aG (List.getElem?_eq_getElem h3);rw[Int.toNat_of_nonneg h1] at this;exact this
noncomputable def PcOk:Pc->Prop
 |.step s=>0 < s.length∧s.length≤100∧(∀c∈s,isSg c=true)∧isDot s=false
 |.part h _ t=>h.length≤100∧t.length≤100∧(∀c∈h,isSg c=true)∧(∀c∈t,isSg c=true)∧h++t≠[]
 |_=>True
theorem layL {n:Nat}{ds:List PyData}(h:∀d∈ds,LayAt n d):LayAt (n+1) (.list ds):=by obtain⟨h1,h2⟩:=layAll h;exact⟨by simp only[PyData.canLay0,h1],by simp only[PyData.depth];lia⟩
noncomputable def vlD:Vl->PyData
 |.txt l=>st l
 |.int i=>.int i
 |.lst ls=>.list (ls.map st)
theorem gR {H:Hp}:∀(ls:List (List Nat)),IsAll H (ls.map st) (ls.map tV)
 |[]=>.nil
 |l::ls=>.cons (.str _) (gR ls)
theorem VlV.is {H:Hp}:∀{x:Vl}{v:V},VlV H x v->Is H (vlD x) v
 |.txt l,_,h=>by cases h;exact .str _
 |.int i,_,h=>by cases h;exact .int _
 |.lst ls,_,⟨p,e,h⟩=>by cases e;exact .lst h (gR ls)
theorem eB {l:List Nat}(h:l.all isSma=true):∀c∈l,isSg c=true:=fun c hc=>by have:=all_eq_true.mp h c hc;simp only[isSma,decide_eq_true_eq] at this;simp only[isSg,Bool.and_eq_true,decide_eq_true_eq,Bool.not_eq_true',decide_eq_false_iff_not];lia
noncomputable def PatOk (ps:List Pc):Prop:=(∀c∈ps,PcOk c)∧∀i c,ps[i]?=some c->c.isRest=true->i+1=ps.length
noncomputable def NmAt (X:Int)(a k:Nat)(n:List Nat):Prop:=∃d,n[a]?=some d∧atI smaL ((X+(k:Int)) % 26)=some d
theorem NmAt.app {X:Int}{a k:Nat}{n m:List Nat}(h:NmAt X a k n):NmAt X a k (n++m):=by obtain⟨d,h1,h2⟩:=h;exact⟨d,by rw[List.getElem?_append_left (List.getElem?_eq_some_iff.mp h1).1];exact h1,h2⟩
theorem BW:∀i,i < 26->∀j,j < 26->smaL[i]?=smaL[j]?->i=j:=by decide +kernel
theorem BX {X:Int}{a:Nat}{ns:List (List Nat)}(h:∀(k:Nat) (n:List Nat),ns[k]?=some n->NmAt X a k n)(hl:ns.length≤26):ns.Nodup:=by
 rw[List.nodup_iff_pairwise_ne,List.pairwise_iff_getElem];intro i j hi hj dl e;obtain⟨d,h1,h2⟩:=h i _ (List.getElem?_eq_getElem hi);obtain⟨d',h3,h4⟩:=h j _ (List.getElem?_eq_getElem hj);rw[e,h3] at h1;cases h1;have m1:=Int.emod_nonneg (X+(i:Int)) (show (26:Int)≠0 by decide);have m2:=Int.emod_lt_of_pos (X+(i:Int)) (show (0:Int) < 26 by decide);have m3:=Int.emod_nonneg (X+(j:Int)) (show (26:Int)≠0 by decide);have m4:=Int.emod_lt_of_pos (X+(j:Int)) (show (0:Int) < 26 by decide);have ad:∀{z:Int},0≤z->z < 26->atI smaL z=smaL[z.toNat]?:=fun {z} z0 z1=>by
  obtain⟨n,rfl⟩:=Int.eq_ofNat_of_zero_le z0;have hl:smaL.length=26:=by decide +kernel
  have hn:n < smaL.length:=by lia
  rw[aG (List.getElem?_eq_getElem hn),<- List.getElem?_eq_getElem hn];rfl
 rw[ad m1 m2] at h2;rw[ad m3 m4] at h4;have:=BW _ (by lia) _ (by lia) (h2.trans h4.symm);lia
inductive PcT (H:Hp):List Pc->List V->Prop
 |nil:PcT H [] []
 |cons {c:Pc}{p:Addr}{cs:List Pc}{xs:List V}:H p=some (.tup c.vals)->PcT H cs xs->PcT H (c::cs) (.ref p::xs)
theorem PcT.mono {H H':Hp}(s:SameT H H'){cs:List Pc}{xs:List V}(hh:PcT H cs xs):PcT H' cs xs:=by
 induction hh with
 |nil=>exact .nil
 |cons h r ih=>exact .cons (s _ _ h) ih
theorem PcT.all {K:W.Frag}{H:Hp}{cs:List Pc}{xs:List V}(hh:PcT H cs xs):PcAll K H cs xs:=by
 induction hh with
 |nil=>exact .nil
 |cons h r ih=>exact .cons (.of h) ih
noncomputable def pcD (c:Pc):PyData:=.tuple (.str c.kw::match c with
 |.step s=>[st s]
 |.part h n t=>[st h,st n,st t]
 |.num n=>[st n]
 |.word n=>[st n]
 |.gap n=>[st n]
 |.rest n=>[st n])
noncomputable def PcSg (c:Pc):Prop:=(∀l,c=.step l->∀x∈l,isSg x=true)∧(∀h n t,c=.part h n t->(∀x∈h,isSg x=true)∧∀x∈t,isSg x=true)∧∀x∈c.name,isSg x=true
end Wm
namespace L2
open PySem PySem.Spec PyProof.Rows
section
variable {p:Addr}{fv:St}{tt:TT}{te:TE}{Q:VK}{H H1:Hp}{K:W.Frag}
theorem om {l b:Addr}:rExtend (.ref l) [.ref b] H Q↔∃xs zs,H l=some (.lst xs)∧H b=some (.lst zs)∧xs.length+zs.length≤sizeLine∧Q .non (upd H l (.lst (xs++zs))):=by
 constructor
 ·rintro⟨l',b',xs,zs,h1,h2,h3⟩;cases h1;cases h2;exact⟨xs,zs,h3⟩
 ·rintro⟨xs,zs,h⟩;exact⟨l,b,xs,zs,rfl,rfl,h⟩
theorem BY {tl:TE}{fr:List Nat}{σ:St}:(tComp2 K (iList K tl) fr tt te σ H Q)=(tl σ H fun x H1=>∃a,x=.ref a∧(∃xs,SqL K H1 a xs)∧∀p,H1 p=none->CompI2 K (Itl K a) p (frV σ fr) tt te Q H1):=rfl
theorem BZ {a:Addr}{xs:List V}(f:Nat->V×V)(t:Nat->Bool)(g:Nat->V)(hxs:SqL K H1 a xs)(hlen:xs.length≤sizeLine)(hp:H1 p=none)
  (hit:∀(i:Nat) (x:V) (H':Hp),xs[i]?=some x->Same H1 H'->∃b,x=.ref b∧SqT K H' b [(f i).1,(f i).2])
  (ht:∀(i:Nat),i < xs.length->∀(H':Hp) (R:Bool->Hp->Prop),Same H1 H'->(∀H'',Same H' H''->R (t i) H'')->tt (some (f i).1::some (f i).2::fv) H' R)
  (he:∀(i:Nat),i < xs.length->t i=true->∀(H':Hp) (T:VK),Same H1 H'->(∀H'',Same H' H''->T (g i) H'')->te (some (f i).1::some (f i).2::fv) H' T)
  (hQ:∀H',Same H1 H'->H' p=some (.lst (((List.range xs.length).filter t).map g))->Q (.ref p) H'):CompI2 K (Itl K a) p fv tt te Q H1:=by
 refine⟨fun i m ys H2=>m=xs.length - i∧i≤xs.length∧ys=((List.range i).filter t).map g∧H2 p=some (.lst ys)∧Same H1 H2,⟨xs.length,by simp,Nat.zero_le _,by simp,aL,fun b o e=>by rw[aN (aY e hp)];exact e⟩,?_⟩;rintro i m ys H2 ⟨rfl,hi,rfl,dl,sm⟩;refine⟨dl,?_⟩;have q:=sm.seq hxs;by_cases ad:i < xs.length
 ·refine .inr ⟨⟨xs,xs[i],q,by simp[ad]⟩,?_,fun x H3 y=>?_⟩
  ·rw[length_map];have:=length_filter_le t (List.range i);rw[length_range] at this;lia
  ·obtain⟨rfl,y⟩:=y;have hc:=y xs q;obtain⟨b,rfl,hb⟩:=hit i x H3 hc sm;refine⟨b,_,_,rfl,hb,?_⟩;refine ht i ad _ _ sm fun H4 s4=>?_;by_cases hf:t i=true
   ·rw[if_pos hf];refine he i ad hf _ _ (sm.trans s4) fun H5 s5=>⟨(s4.trans s5) _ _ dl,xs.length - (i+1),by lia,rfl,ad,?_,aL,fun b o e=>?_⟩
    ·rw[range_succ,filter_append,map_append];simp[hf]
    ·rw[aN (aY e hp)];exact (s4.trans s5) _ _ (sm _ _ e)
   ·rw[if_neg hf];refine⟨xs.length - (i+1),by lia,rfl,ad,?_,s4 _ _ dl,sm.trans s4⟩;rw[range_succ,filter_append,map_append];simp[hf]
 ·have e:i=xs.length:=by lia
  subst e;exact .inl ⟨⟨xs,q,Nat.le_refl _⟩,hQ H2 sm dl⟩
theorem C0 {a:Addr}{xs:List V}(t:Nat->Bool)(g:Nat->V)(hxs:SqT K H1 a xs)(hlen:xs.length≤sizeLine)(hp:H1 p=none)
  (ht:∀(i:Nat) (x:V),xs[i]?=some x->∀(H':Hp) (R:Bool->Hp->Prop),Same H1 H'->(∀H'',Same H' H''->R (t i) H'')->tt (some x::fv) H' R)
  (he:∀(i:Nat) (x:V),xs[i]?=some x->t i=true->∀(H':Hp) (T:VK),Same H1 H'->(∀H'',Same H' H''->T (g i) H'')->te (some x::fv) H' T)
  (hQ:∀H',Same H1 H'->H' p=some (.lst (((List.range xs.length).filter t).map g))->Q (.ref p) H'):CompI (Itt K a) p fv tt te Q H1:=by
 refine⟨fun i m ys H2=>m=xs.length - i∧i≤xs.length∧ys=((List.range i).filter t).map g∧H2 p=some (.lst ys)∧Same H1 H2,⟨xs.length,by simp,Nat.zero_le _,by simp,aL,fun b o e=>by rw[aN (aY e hp)];exact e⟩,?_⟩;rintro i m ys H2 ⟨rfl,hi,rfl,ad,sm⟩;refine⟨ad,?_⟩;have q:=sm.tup hxs;by_cases dl:i < xs.length
 ·refine .inr ⟨⟨xs,xs[i],q,by simp[dl]⟩,?_,fun x H3 y=>?_⟩
  ·rw[length_map];have:=length_filter_le t (List.range i);rw[length_range] at this;lia
  ·obtain⟨rfl,y⟩:=y;have hc:=y xs q;refine ht i x hc _ _ sm fun H4 s4=>?_;by_cases hf:t i=true
   ·rw[if_pos hf];refine he i x hc hf _ _ (sm.trans s4) fun H5 s5=>⟨(s4.trans s5) _ _ ad,xs.length - (i+1),by lia,rfl,dl,?_,aL,fun b o e=>?_⟩
    ·rw[range_succ,filter_append,map_append];simp[hf]
    ·rw[aN (aY e hp)];exact (s4.trans s5) _ _ (sm _ _ e)
   ·rw[if_neg hf];refine⟨xs.length - (i+1),by lia,rfl,dl,?_,s4 _ _ ad,sm.trans s4⟩;rw[range_succ,filter_append,map_append];simp[hf]
 ·have e:i=xs.length:=by lia
  subst e;exact .inl ⟨⟨xs,q,Nat.le_refl _⟩,hQ H2 sm ad⟩
end
end L2
namespace Wm
open PySem L2
theorem on {α β:Type}(f:α->Bool)(g:α->β)(d:β):∀(l:List α),((List.range l.length).filter fun i=>(l[i]?.map f).getD false).map (fun i=>(l[i]?.map g).getD d)=(l.filter f).map g
 |[]=>rfl
 |a::l=>by
  have ih:=on f g d l;have e2:((((List.range l.length).map Nat.succ).filter fun i=>(((a::l)[i]?).map f).getD false).map fun i=>(((a::l)[i]?).map g).getD d)=(l.filter f).map g:=by rw[filter_map,map_map,<- ih];rfl
  rw[length_cons,range_succ_eq_map,filter_cons];by_cases hf:f a=true
  ·rw[if_pos (by simp[hf]),map_cons,e2,filter_cons,if_pos hf,map_cons];rfl
  ·rw[if_neg (by simp[hf]),e2,filter_cons,if_neg hf]
noncomputable def canD:PyData->Bool
 |.str s=>s.cps.toList.all isSg && decide (0 < s.length) && !isDot s.cps.toList
 |_=>false
noncomputable def txD:PyData->List Nat
 |.str s=>s.cps.toList
 |_=>[]
noncomputable def isValD (c:Pc)(d:PyData):Bool:=match c with
 |.rest _=>match d with
  |.list ds=>decide (0 < ds.length) && ds.all canD
  |_=>false
 |.num _=>match d with
  |.int i=>decide (0≤i∧i < 10 ^ 60)
  |_=>false
 |.word _=>match d with
  |.str s=>wordB s.cps.toList
  |_=>false
 |.step _=>false
 |.part h _ t=>ftx d && !isDot (h++txD d++t)
 |.gap _=>ftx d && !isDot (txD d)
noncomputable def stpsD (c:Pc)(d:PyData):List (List Nat):=match c with
 |.rest _=>match d with
  |.list ds=>ds.map txD
  |_=>[]
 |.num _=>match d with
  |.int i=>[dg i]
  |_=>[]
 |.step s=>[s]
 |c=>[c.head++txD d++c.tail]
inductive VlsV (H:Hp):List (List Nat×PyData)->List V->Prop
 |nil:VlsV H [] []
 |cons {n:List Nat}{d:PyData}{p:Addr}{v:V}{vs:List (List Nat×PyData)}{xs:List V}:H p=some (.tup [tV n,v])->Is H d v->VlsV H vs xs->VlsV H ((n,d)::vs) (.ref p::xs)
theorem VlsV.mono {H H':Hp}(s:Same H H'){vs:List (List Nat×PyData)}{xs:List V}(hh:VlsV H vs xs):VlsV H' vs xs:=by
 induction hh with
 |nil=>exact .nil
 |cons h a r ih=>exact .cons (s _ _ h) (a.mono s) ih
theorem VlsV.length {H:Hp}{vs:List (List Nat×PyData)}{xs:List V}(hh:VlsV H vs xs):xs.length=vs.length:=by
 induction hh with
 |nil=>exact rfl
 |cons _ _ r ih=>simp[ih]
theorem VlsV.get {H:Hp}{vs:List (List Nat×PyData)}{xs:List V}(hh:VlsV H vs xs){i:Nat}{x:V}(e:xs[i]?=some x):∃n d p v,vs[i]?=some (n,d)∧x=.ref p∧H p=some (.tup [tV n,v])∧Is H d v:=by
 induction hh generalizing i with
 |nil=>cases e
 |cons h a _ ih=>
  cases i with
  |zero=>cases e;exact⟨_,_,_,_,rfl,rfl,h,a⟩
  |succ i=>exact ih e
theorem VlsV.append {H:Hp}{ws:List (List Nat×PyData)}{ys:List V}(h2:VlsV H ws ys){vs:List (List Nat×PyData)}{xs:List V}(hh:VlsV H vs xs):VlsV H (vs++ws) (xs++ys):=by
 induction hh with
 |nil=>exact h2
 |cons h a r ih=>exact .cons h a ih
theorem VlsV.take {H:Hp}:∀{vs:List (List Nat×PyData)}{xs:List V} (n:Nat),VlsV H vs xs->VlsV H (vs.take n) (xs.take n)
 |_,_,0,_=>.nil
 |_,_,_+1,.nil=>.nil
 |_,_,n+1,.cons h a r=>.cons h a (VlsV.take n r)
theorem VlsV.drop {H:Hp}:∀{vs:List (List Nat×PyData)}{xs:List V} (n:Nat),VlsV H vs xs->VlsV H (vs.drop n) (xs.drop n)
 |_,_,0,h=>h
 |_,_,_+1,.nil=>.nil
 |_,_,n+1,.cons _ _ r=>VlsV.drop n r
noncomputable def gapsM (cs:List Pc):List (List Nat):=(cs.filter fun c=>!c.isStep).map Pc.name
noncomputable def named (vs:List (List Nat×PyData))(n:List Nat):List PyData:=(vs.filter fun p=>decide (p.1=n)).map (·.2)
noncomputable def fillS (c:Pc)(vs:List (List Nat×PyData)):Except (List Nat) (List (List Nat)):=match c with
 |.step s=>.ok [s]
 |c=>match named vs c.name with
  |[d]=>if isValD c d=true then .ok (stpsD c d) else .error c.name
  |_=>.error c.name
noncomputable def fillF:List Pc->List (List Nat×PyData)->Except (List Nat) (List (List Nat))
 |[],_=>.ok []
 |c::cs,vs=>match fillS c vs with
  |.error n=>.error n
  |.ok a=>match fillF cs vs with
   |.error n=>.error n
   |.ok b=>.ok (a++b)
noncomputable def otherM (cs:List Pc)(vs:List (List Nat×PyData)):Option (List Nat):=(vs.find? fun p=>!decide (p.1∈gapsM cs)).map (·.1)
noncomputable def fillM (cs:List Pc)(vs:List (List Nat×PyData)):Except (List Nat) (List (List Nat)):=match fillF cs vs with
 |.error n=>.error n
 |.ok ss=>match otherM cs vs with
  |some n=>.error n
  |none=>.ok ss
theorem C1 {H:Hp}{vs:List (List Nat×PyData)}{xs:List V}(h:VlsV H vs xs)(n:List Nat)(g:Nat->V)(hg:∀i m d p v,vs[i]?=some (m,d)->xs[i]?=some (.ref p)->H p=some (.tup [tV m,v])->g i=v) :
  IsAll H (named vs n) (((List.range xs.length).filter fun i=>decide ((vs[i]?.map (·.1))=some n)).map g):=by
 induction h generalizing g with
 |nil=>exact .nil
 |cons hp ha r ih=>
  rename_i m d p v vs xs;have e:List.range (V.ref p::xs).length=0::(List.range xs.length).map Nat.succ:=by rw[length_cons,range_succ_eq_map]
  have ad:=ih (fun i=>g (i+1)) (fun i m d p v h1 h2 h3=>hg (i+1) m d p v (by simpa using h1) (by simpa using h2) h3);have e2:((((List.range xs.length).map Nat.succ).filter fun i=>decide ((((m,d)::vs)[i]?.map (·.1))=some n)).map g)=(((List.range xs.length).filter fun i=>decide ((vs[i]?.map (·.1))=some n)).map fun i=>g (i+1)):=by rw[filter_map,map_map];rfl
  rw[e,filter_cons];have g0:g 0=v:=hg 0 m d p v rfl rfl hp;by_cases hm:m=n
  ·have e3:named ((m,d)::vs) n=d::named vs n:=by unfold named;rw[filter_cons,if_pos (by simp[hm])];rfl
   rw[e3,if_pos (by simp[hm]),map_cons,e2,g0];exact .cons ha ad
  ·have e3:named ((m,d)::vs) n=named vs n:=by unfold named;rw[filter_cons,if_neg (by simp[hm])]
   rw[e3,if_neg (by simp[hm]),e2];exact ad
theorem oo {H:Hp}:∀{ds:List PyData}{xs:List V},IsAll H ds xs->ds.all canD=true->xs=(ds.map txD).map tV
 |_,_,.nil,_=>rfl
 |d::ds,_,.cons h r,hc=>by
  rw[all_cons,Bool.and_eq_true] at hc;have:=oo r hc.2;cases d with
  |str s=>cases h;rw[this];rfl
  |_=>cases hc.1
theorem C2 {c:Pc}{vs:List (List Nat×PyData)}{ss:List (List Nat)}(h:fillS c vs=.ok ss)(hs:∀p∈vs,smallD p.2=true):ss.length≤100000:=by
 have ad:∀c:Pc,(match named vs c.name with|[d]=>if isValD c d=true then (.ok (stpsD c d):Except (List Nat) (List (List Nat))) else .error c.name|_=>.error c.name)=.ok ss->(∀d,d∈named vs c.name->isValD c d=true->(stpsD c d).length≤100000)->ss.length≤100000:=fun c h hd=>by
  cases hn:named vs c.name with
  |nil=>rw[hn] at h;cases h
  |cons d r=>
   cases r with
   |nil=>
    rw[hn] at h hd;by_cases hv:isValD c d=true
    ·have h:(if isValD c d=true then (.ok (stpsD c d):Except (List Nat) (List (List Nat))) else .error c.name)=.ok ss:=h;rw[if_pos hv] at h;cases h;exact hd d (mem_singleton.mpr rfl) hv
    ·have h:(if isValD c d=true then (.ok (stpsD c d):Except (List Nat) (List (List Nat))) else .error c.name)=.ok ss:=h;rw[if_neg hv] at h;cases h
   |cons _ _=>rw[hn] at h;cases h
 have dl:∀n d,d∈named vs n->smallD d=true:=fun n d hd=>by obtain⟨p,hp,rfl⟩:=mem_map.mp hd;exact hs p (mem_filter.mp hp).1
 cases c with
 |step s=>cases h;exact (show 1≤100000 by decide)
 |part a b e=>exact ad _ h fun d _ _=>(by show 1≤100000;decide)
 |word n=>exact ad _ h fun d _ _=>(by show 1≤100000;decide)
 |gap n=>exact ad _ h fun d _ _=>(by show 1≤100000;decide)
 |num n=>
  refine ad _ h fun d _ hv=>?_;cases d with
  |int i=>exact (by show 1≤100000;decide)
  |_=>exact Nat.zero_le _
 |rest n=>
  refine ad _ h fun d hd _=>?_;cases d with
  |list ds=>have:=dl _ _ hd;simp only[smallD,Bool.and_eq_true,decide_eq_true_eq] at this;show (ds.map txD).length≤100000;rw[length_map];exact this.1
  |_=>exact Nat.zero_le _
theorem oq {vs:List (List Nat×PyData)}:∀{cs:List Pc}{i:Nat}{c:Pc}{a b:List (List Nat)},cs[i]?=some c->fillF (cs.take i) vs=.ok a->fillS c vs=.ok b->fillF (cs.take (i+1)) vs=.ok (a++b)
 |[],_,_,_,_,h,_,_=>by cases h
 |d::cs,0,c,a,b,h,h1,h2=>by cases h;cases h1;show fillF [d] vs=_;unfold fillF fillF;rw[h2];simp
 |d::cs,i+1,c,a,b,h,h1,h2=>by
  have h:cs[i]?=some c:=by simpa using h
  have h1:fillF (d::cs.take i) vs=.ok a:=h1;show fillF (d::cs.take (i+1)) vs=_;unfold fillF at h1 ⊢;cases hd:fillS d vs with
  |error n=>rw[hd] at h1;cases h1
  |ok x=>
   rw[hd] at h1;cases hf:fillF (cs.take i) vs with
   |error n=>rw[hf] at h1;cases h1
   |ok y=>rw[hf] at h1;cases h1;have:=oq h hf h2;rw[this];simp
theorem ou {vs:List (List Nat×PyData)}{n:List Nat}:∀{cs:List Pc}{i:Nat}{c:Pc}{a:List (List Nat)},cs[i]?=some c->fillF (cs.take i) vs=.ok a->fillS c vs=.error n->fillF cs vs=.error n
 |[],_,_,_,h,_,_=>by cases h
 |d::cs,0,c,a,h,h1,h2=>by cases h;unfold fillF;rw[h2]
 |d::cs,i+1,c,a,h,h1,h2=>by
  have h:cs[i]?=some c:=by simpa using h
  have h1:fillF (d::cs.take i) vs=.ok a:=h1;unfold fillF at h1 ⊢;cases hd:fillS d vs with
  |error n=>rw[hd] at h1;cases h1
  |ok x=>
   rw[hd] at h1;cases hf:fillF (cs.take i) vs with
   |error n=>rw[hf] at h1;cases h1
   |ok y=>rw[hf] at h1;cases h1;have:=ou h hf h2;rw[this]
noncomputable def prAt (H:Hp)(ys:List V)(i:Nat):V×V:=match ys[i]? with
 |some (.ref p)=>match H p with
  |some (.tup [a,b])=>(a,b)
  |_=>(.non,.non)
 |_=>(.non,.non)
theorem jV {H:Hp}{ys:List V}{i:Nat}{p:Addr}{a b:V}(h:ys[i]?=some (.ref p))(hp:H p=some (.tup [a,b])):prAt H ys i=(a,b):=by unfold prAt;rw[h];dsimp only;rw[hp]
theorem ow {c:Pc}{vs:List (List Nat×PyData)}(h:c.isStep=false):fillS c vs=(match named vs c.name with|[d]=>if isValD c d=true then .ok (stpsD c d) else .error c.name|_=>.error c.name):=by
 cases c with
 |step s=>cases h
 |_=>rfl
end Wm
namespace L2
open PySem
theorem C3 {X:Cx}{K:W.Frag}(h:X.K=K):OpR X (compareOp .NotIn) (rIn K true):=by subst h;exact vY
end L2
namespace Wm
open PySem L2
theorem oy {cs:List Pc}{n:List Nat}{d:PyData}:∀{ws:List (List Nat×PyData)}{i:Nat},ws[i]?=some (n,d)->(∀w∈ws.take i,w.1∈gapsM cs)->n∉gapsM cs->otherM cs ws=some n
 |[],_,h,_,_=>by cases h
 |w::ws,0,h,_,hn=>by cases h;unfold otherM;rw[List.find?_cons_of_pos (by simp[hn])];rfl
 |w::ws,i+1,h,hp,hn=>by have hw:=hp w (by simp);have ih:=oy (ws:=ws) (i:=i) (by simpa using h) (fun x hx=>hp x (by simp[hx])) hn;unfold otherM at ih ⊢;rw[List.find?_cons_of_neg (by simp[hw])];exact ih
theorem oz {cs:List Pc}{ws:List (List Nat×PyData)}(h:∀w∈ws,w.1∈gapsM cs):otherM cs ws=none:=by unfold otherM;rw[List.find?_eq_none.mpr (fun w hw=>by simp[h w hw])];rfl
theorem d7 (cs:List Pc):(gapsM cs).length≤cs.length:=by unfold gapsM;rw[length_map];exact length_filter_le _ _
theorem C4:∀(k:Nat) (ds:List Nat),ds.length=k->ds≠[]->(∀c∈ds,48≤c∧c≤57)->(ds=[48]∨ds.head?≠some 48)->(Nat.toDigits 10 (valD ds)).map Char.toNat=ds:=by
 intro k;induction k with
 |zero=>intro ds hl hn;exact absurd (length_eq_zero_iff.mp hl) hn
 |succ k ih=>
  intro ds hl hn hd h0;have dl:∀n,n < 10->([Nat.digitChar n].map Char.toNat)=[48+n]:=by decide +kernel
  obtain⟨as,c,rfl⟩:∃as c,ds=as++[c]:=⟨ds.dropLast,ds.getLast hn,(List.dropLast_concat_getLast hn).symm⟩;have hc:=hd c (mem_append_right _ (mem_singleton.mpr rfl));rw[cb];cases has:as with
  |nil=>
   have ev:valD ([]:List Nat)=0:=rfl;rw[ev,Nat.zero_mul,Nat.zero_add,Nat.toDigits_of_lt_base (by lia),dl _ (by lia)];show [48+(c - 48)]=[c]
   congr 1;lia
  |cons a as'=>
   rw[<- has];have ld:as≠[]:=by rw[has];simp
   have ad:a≠48:=fun z=>by
    rcases h0 with h0|h0
    ·have:=congrArg List.length h0;rw[length_append,has] at this;simp at this
    ·refine h0 ?_;rw[has,z];rfl
   have ha:=hd a (by rw[has];simp);have hp:=oB has (by lia);have hi:=ih as (by rw[length_append,length_singleton] at hl;lia) ld (fun x hx=>hd x (mem_append_left _ hx)) (.inr (by rw[has];intro z;exact ad (Option.some.inj z)));rw[Nat.toDigits_of_base_le (by decide) (by lia),map_append];rw[show (valD as * 10+(c - 48)) / 10=valD as by lia,show (valD as * 10+(c - 48)) % 10=c - 48 by lia,hi,dl _ (by lia)]
   congr 1
   show [48+(c - 48)]=[c]
   congr 1;lia
theorem C5:∀(k:Nat) (ds:List Nat),ds.length=k->(∀c∈ds,48≤c∧c≤57)->valD ds < 10 ^ k:=by
 intro k;induction k with
 |zero=>intro ds hl _;rw[length_eq_zero_iff.mp hl];decide
 |succ k ih=>
  intro ds hl hd;have hn:ds≠[]:=fun z=>by rw[z] at hl;cases hl
  obtain⟨as,c,rfl⟩:∃as c,ds=as++[c]:=⟨ds.dropLast,ds.getLast hn,(List.dropLast_concat_getLast hn).symm⟩;have hc:=hd c (mem_append_right _ (mem_singleton.mpr rfl));have:=ih as (by rw[length_append,length_singleton] at hl;lia) (fun x hx=>hd x (mem_append_left _ hx));rw[cb,Nat.pow_succ];lia
theorem p8 {l:List Nat}(h:l.all isFig=true)(h0:1≤l.length)(h1:l.length≤60):intOf l=(valD l:Int):=by
 have e:=intText_digits (x:=⟨l.toArray⟩) (fun c hc=>by have:=all_eq_true.mp h c (by simpa using hc);simpa [isFig] using this) (by intro z;simp at z;rw[z] at h0;simp at h0) (by show l.length≤4300;lia)
 unfold intOf;rw[e];rfl
theorem C6 {l:List Nat}(h:l.all isFig=true):∀c∈l,48≤c∧c≤57:=fun c hc=>by have:=all_eq_true.mp h c hc;simpa [isFig] using this
theorem C7 {s:List Nat}(h:numB s=true):dg (intOf s)=s∧0≤intOf s∧intOf s < 10 ^ 60:=by
 unfold numB at h;simp only[Bool.and_eq_true,decide_eq_true_eq,Bool.or_eq_true,Bool.not_eq_true',decide_eq_false_iff_not] at h;obtain⟨⟨⟨h1,h2⟩,h3⟩,h4⟩:=h;have hf:=C6 h3;rw[p8 h3 h1 h2];have hn:s≠[]:=length_pos_iff.mp h1;refine⟨?_,by lia,?_⟩
 ·unfold dg;rw[PySem.W.KIN.signs_num];exact C4 _ s rfl hn hf h4
 ·have:=C5 _ s rfl hf;have ad:10 ^ s.length≤10 ^ 60:=Nat.pow_le_pow_right (by decide) h2;have:valD s < 10 ^ 60:=Nat.lt_of_lt_of_le this ad
  exact_mod_cast this
theorem C8 {h t s:List Nat}(hp:partB h t s=true):h++amid h t s++t=s∧amid h t s≠[]:=by
 unfold partB at hp;simp only[Bool.and_eq_true,decide_eq_true_eq] at hp;obtain⟨h1,h2,h3⟩:=hp;unfold amid;constructor
 ·have e1:h++s.drop h.length=s:=by
   conv=>rhs;rw[<- take_append_drop h.length s]
   rw[h1]
  have e2:(s.drop h.length).drop (s.length - t.length - h.length)=t:=by rw[drop_drop,show h.length+(s.length - t.length - h.length)=s.length - t.length by lia];exact h2
  rw[append_assoc];have e3:(s.drop h.length).take (s.length - t.length - h.length)++t=s.drop h.length:=by
   conv=>rhs;rw[<- take_append_drop (s.length - t.length - h.length) (s.drop h.length)]
   rw[e2]
  rw[e3,e1]
 ·intro z;have:=congrArg List.length z;rw[length_take,length_drop] at this;simp at this;lia
noncomputable def SgT (s:List Nat):Prop:=s≠[]∧∀c∈s,isSg c=true
theorem pA {s:List Nat}(h:SgT s):ftx (st s)=true:=by simp only[ftx,j9,Bool.and_eq_true,decide_eq_true_eq];exact⟨all_eq_true.mpr h.2,length_pos_iff.mpr h.1⟩
theorem C9 {c:Pc}{s:List Nat}{r:List (List Nat)}(hs:c.isStep=false)(hr:c.isRest=false)(hf:fitsM c s=true)(hg:SgT s):isValD c (vlD (bvM c (s::r)))=true∧stpsD c (vlD (bvM c (s::r)))=[s]:=by
 unfold fitsM at hf;rw[Bool.and_eq_true,Bool.not_eq_true'] at hf;obtain⟨hd,hf⟩:=hf;cases c with
 |step w=>cases hs
 |rest n=>cases hr
 |part h n t=>
  obtain⟨e,ne⟩:=C8 hf;have ea:vlD (bvM (.part h n t) (s::r))=st (amid h t s):=rfl;rw[ea];refine⟨?_,?_⟩
  ·show (ftx (st (amid h t s)) && !isDot (h++amid h t s++t))=true;rw[e,hd,pA ⟨ne,fun c hc=>hg.2 c (by rw[<- e];simp[hc])⟩];rfl
  ·show [h++amid h t s++t]=[s];rw[e]
 |num n=>obtain⟨h1,h2,h3⟩:=C7 hf;have ea:vlD (bvM (.num n) (s::r))=.int (intOf s):=rfl;rw[ea];exact⟨decide_eq_true ⟨h2,h3⟩,by show [dg (intOf s)]=[s];rw[h1]⟩
 |word n=>
  have ea:vlD (bvM (.word n) (s::r))=st s:=by show st (amid [] [] s)=st s;rw[gQ]
  rw[ea];exact⟨hf,by show [[]++s++[]]=[s];simp⟩
 |gap n=>
  have ea:vlD (bvM (.gap n) (s::r))=st s:=by show st (amid [] [] s)=st s;rw[gQ]
  rw[ea];refine⟨?_,by show [[]++s++[]]=[s];simp⟩;show (ftx (st s) && !isDot s)=true;rw[pA hg,hd];rfl
theorem Ca {s:List Nat}(h:SgT s)(hd:isDot s=false):canD (st s)=true:=by show (s.all isSg && decide (0 < (⟨s.toArray⟩:Str).length) && !isDot s)=true;rw[all_eq_true.mpr h.2,decide_eq_true (show 0 < (⟨s.toArray⟩:Str).length by rw[aU];exact length_pos_iff.mpr h.1),hd];rfl
theorem Cb {n:List Nat}{ss:List (List Nat)}(hn:ss≠[])(h:∀s∈ss,SgT s∧isDot s=false):isValD (.rest n) (vlD (bvM (.rest n) ss))=true∧stpsD (.rest n) (vlD (bvM (.rest n) ss))=ss:=by
 have ea:vlD (bvM (.rest n) ss)=.list (ss.map st):=rfl;rw[ea];refine⟨?_,?_⟩
 ·show (decide (0 < (ss.map st).length) && (ss.map st).all canD)=true;rw[decide_eq_true (by rw[length_map];exact length_pos_iff.mpr hn),Bool.true_and];refine all_eq_true.mpr fun d hd=>?_;obtain⟨s,hs,rfl⟩:=mem_map.mp hd;exact Ca (h s hs).1 (h s hs).2
 ·show (ss.map st).map txD=ss;rw[map_map]
  conv=>rhs;rw[<- map_id ss]
  rfl
theorem Cc {ws:List (List Nat×PyData)}{n:List Nat}(h:n∉ws.map (·.1)):named ws n=[]:=by
 unfold named;rw[List.filter_eq_nil_iff.mpr fun p hp=>by simp only[decide_eq_true_eq];exact fun z=>h (by rw[<- z];exact mem_map_of_mem hp)]
 rfl
theorem jW:∀{ws:List (List Nat×PyData)}{n:List Nat}{d:PyData},(ws.map (·.1)).Nodup->(n,d)∈ws->named ws n=[d]
 |[],_,_,_,h=>by cases h
 |w::ws,n,d,hn,h=>by
  rw[map_cons,nodup_cons] at hn;rcases mem_cons.mp h with rfl|h
  ·have:named ((n,d)::ws) n=d::named ws n:=by unfold named;rw[filter_cons,if_pos (by simp)];rfl
   rw[this,Cc hn.1]
  ·have hne:w.1≠n:=fun z=>hn.1 (by rw[z];exact mem_map_of_mem (f:=(·.1)) h);have:named (w::ws) n=named ws n:=by unfold named;rw[filter_cons,if_neg (by simp[hne])]
   rw[this];exact jW hn.2 h
theorem pB {ns:List (List Nat)}(hn:ns.Nodup):∀{cs:List Pc} (k:Nat),(∀(i:Nat) (c:Pc),cs[i]?=some c->c.isStep=false->ns[k+i]?=some c.name)->(gapsM cs).Nodup∧∀n∈gapsM cs,∃j,k≤j∧ns[j]?=some n
 |[],_,_=>⟨List.nodup_nil,fun n h=>by cases h⟩
 |c::cs,k,h=>by
  obtain⟨i1,i2⟩:=pB hn (cs:=cs) (k+1) fun i d hd hs=>by have:=h (i+1) d (by simpa using hd) hs;rw[<- this];congr 1;lia
  have e:gapsM (c::cs)=(if c.isStep then [] else [c.name])++gapsM cs:=by unfold gapsM;rw[filter_cons];cases c.isStep <;> rfl
  rw[e];cases hs:c.isStep with
  |true=>exact⟨i1,fun n ad=>by obtain⟨j,h1,h2⟩:=i2 n ad;exact⟨j,by lia,h2⟩⟩
  |false=>
   have h0:ns[k]?=some c.name:=h 0 c rfl hs;refine⟨?_,fun n ad=>?_⟩
   ·show (c.name::gapsM cs).Nodup;rw[nodup_cons];refine⟨fun z=>?_,i1⟩;obtain⟨j,h1,h2⟩:=i2 _ z;obtain⟨a1,a2⟩:=List.getElem?_eq_some_iff.mp h0;obtain⟨b1,b2⟩:=List.getElem?_eq_some_iff.mp h2;rw[List.nodup_iff_pairwise_ne,List.pairwise_iff_getElem] at hn;exact hn k j a1 b1 (by lia) (a2.trans b2.symm)
   ·rcases mem_cons.mp (show n∈c.name::gapsM cs from ad) with rfl|z
    ·exact⟨k,Nat.le_refl _,h0⟩
    ·obtain⟨j,h1,h2⟩:=i2 n z;exact⟨j,by lia,h2⟩
theorem pC {ws:List (List Nat×PyData)}:∀{cs:List Pc}{ss:List (List Nat)},(∀(i:Nat) (c:Pc),cs[i]?=some c->∃s,ss[i]?=some s∧fitsM c s=true)->(∀(i:Nat) (c:Pc),cs[i]?=some c->c.isRest=true->i+1=cs.length)->((∀c∈cs,c.isRest=false)->ss.length=cs.length)->(∀s∈ss,SgT s∧isDot s=false)->(∀n x,(n,x)∈boundM cs ss->named ws n=[vlD x])->fillF cs ws=.ok ss
 |[],ss,_,_,hl,_,_=>by have:=hl (fun c hc=>by cases hc);rw[length_nil] at this;rw[length_eq_zero_iff.mp this];rfl
 |c::cs,ss,hf,hr,hl,hg,hb=>by
  obtain⟨s,h0,hfs⟩:=hf 0 c rfl;cases ss with
  |nil=>cases h0
  |cons s' ss=>
   cases h0;have hbe:boundM (c::cs) (s::ss)=(if c.isStep then [] else [(c.name,bvM c (s::ss))])++boundM cs ss:=rfl;by_cases hcr:c.isRest=true
   ·have hn:cs=[]:=length_eq_zero_iff.mp (by have:=hr 0 c rfl hcr;simp only[length_cons] at this;lia);subst hn;cases c with
    |rest n=>
     have hb1:=hb n (bvM (.rest n) (s::ss)) (by rw[hbe];exact mem_append_left _ (mem_singleton.mpr rfl));obtain⟨r1,r2⟩:=Cb (n:=n) (ss:=s::ss) (by simp) hg;have e:fillS (.rest n) ws=.ok (s::ss):=by show (match named ws n with|[d]=>if isValD (.rest n) d=true then (.ok (stpsD (.rest n) d):Except (List Nat) (List (List Nat))) else .error n|_=>.error n)=_;rw[hb1];show (if isValD (.rest n) _=true then _ else _)=_;rw[if_pos r1,r2]
     unfold fillF fillF;rw[e];simp
    |_=>cases hcr
   ·have ih:=pC (ws:=ws) (cs:=cs) (ss:=ss) (fun i d hd=>by
     obtain⟨z,h1,h2⟩:=hf (i+1) d (by simpa using hd);exact⟨z,by simpa using h1,h2⟩) (fun i d hd ad=>by
     have:=hr (i+1) d (by simpa using hd) ad;simp only[length_cons] at this;lia) (fun h=>by
     have:=hl (fun d hd=>by
      rcases mem_cons.mp hd with rfl|hd
      ·simpa using hcr
      ·exact h d hd)
     simp only[length_cons] at this;lia) (fun z hz=>hg z (mem_cons_of_mem _ hz)) (fun n x hx=>hb n x (by rw[hbe];exact mem_append_right _ hx))
    have e:fillS c ws=.ok [s]:=by
     cases hst:c.isStep with
     |true=>
      cases c with
      |step w=>unfold fitsM at hfs;rw[Bool.and_eq_true] at hfs;have:s=w:=of_decide_eq_true hfs.2;rw[this];rfl
      |_=>cases hst
     |false=>rw[ow hst];have hb1:=hb c.name (bvM c (s::ss)) (by rw[hbe,hst];exact mem_append_left _ (mem_singleton.mpr rfl));rw[hb1];obtain⟨r1,r2⟩:=C9 (r:=ss) hst (by simpa using hcr) hfs (hg s (mem_cons_self ..)).1;show (if isValD c _=true then _ else _)=_;rw[if_pos r1,r2]
    unfold fillF;rw[e,ih];rfl
theorem Cd {cs:List Pc}{cl r e:Bool}{ss:List (List Nat)}(h:fitsP cs cl r ss e=true):r=true∧e=cl∧((∀c∈cs,c.isRest=false)->ss.length=cs.length)∧cs.length≤ss.length∧∀s∈ss,isDot s=false:=by
 unfold fitsP at h;cases hs:spreadM cs ss.length with
 |none=>rw[hs] at h;cases h
 |some ds=>
  rw[hs] at h;have h:(r && decide (e=cl) && (List.zipWith fitsM ds ss).all id)=true:=h;rw[Bool.and_eq_true,Bool.and_eq_true,decide_eq_true_eq] at h;have hdl:=oj hs;refine⟨h.1.1,h.1.2,fun hn=>?_,(oh hs).1,fun s ad=>?_⟩
  ·unfold spreadM at hs;by_cases hr:hasRest cs=true∧cs.length≤ss.length
   ·exfalso;have hh:=hr.1;unfold hasRest at hh;cases hg:cs.getLast? with
    |none=>rw[hg] at hh;cases hh
    |some c=>rw[hg] at hh;have hc:=hn c (List.mem_of_getLast? hg);have hh:c.isRest=true:=hh;rw[hc] at hh;cases hh
   ·rw[if_neg hr] at hs;by_cases hl:ss.length=cs.length
    ·exact hl
    ·rw[if_neg hl] at hs;cases hs
  ·obtain⟨i,hi⟩:=List.mem_iff_getElem?.mp ad;have hil:=(List.getElem?_eq_some_iff.mp hi).1;have hd:ds[i]?=some ds[i]:=List.getElem?_eq_getElem (by lia);have hz:fitsM ds[i] s∈List.zipWith fitsM ds ss:=by
    rw[List.mem_iff_getElem?];exact⟨i,by rw[List.getElem?_zipWith,hd,hi]⟩
   have:=all_eq_true.mp h.2 _ hz;have this:fitsM ds[i] s=true:=this;unfold fitsM at this;rw[Bool.and_eq_true,Bool.not_eq_true'] at this;exact this.1
theorem Ce {c:Nat}(h:48≤c∧c≤57):isSg c=true:=by simp only[isSg,Bool.and_eq_true,decide_eq_true_eq,Bool.not_eq_true',decide_eq_false_iff_not];lia
theorem Cf {k:Nat}:∀{n:Nat},0 < k->n < 10 ^ k->(Nat.toDigits 10 n).length≤k:=by
 induction k with
 |zero=>intro n h;cases h
 |succ k ih=>
  intro n _ h;by_cases hn:n < 10
  ·rw[Nat.toDigits_of_lt_base hn];simp
  ·rw[Nat.toDigits_of_base_le (by decide) (by lia),length_append,length_singleton];cases k with
   |zero=>lia
   |succ k=>have:=ih (n:=n / 10) (by lia) (by rw[Nat.pow_succ] at h;lia);lia
theorem Cg {n:Nat}(h:n < 10 ^ 60):(Nat.toDigits 10 n).length≤60:=Cf (by decide) h
theorem jX:∀{ds:List PyData},(∀d∈ds,PyData.eqv d d=true)->PyData.eqvAll ds ds=true
 |[],_=>by simp[PyData.eqvAll]
 |d::ds,h=>by have h1:=h d (mem_cons_self ..);have h2:=jX (ds:=ds) fun x hx=>h x (mem_cons_of_mem _ hx);simp[PyData.eqvAll,h1,h2]
theorem pE {ds:List PyData}(h:∀d∈ds,PyData.eqv d d=true):PyData.eqv (.list ds) (.list ds)=true:=by simp[PyData.eqv,jX h]
theorem eC {ds:List PyData}(h:∀d∈ds,PyData.eqv d d=true):PyData.eqv (.tuple ds) (.tuple ds)=true:=by simp[PyData.eqv,jX h]
theorem d8 (l:List Nat):PyData.eqv (st l) (st l)=true:=by simp[PyData.eqv]
theorem Ch (i:Int):PyData.eqv (.int i) (.int i)=true:=by simp[PyData.eqv]
theorem Ci (x:Vl):PyData.eqv (vlD x) (vlD x)=true:=by
 cases x with
 |txt l=>exact d8 l
 |int i=>exact Ch i
 |lst ls=>exact pE fun d hd=>by obtain⟨l,_,rfl⟩:=mem_map.mp hd;exact d8 l
noncomputable def VlOk:Vl->Prop
 |.txt l=>(∀c∈l,isSg c=true)∧l.length≤20000
 |.int _=>True
 |.lst ls=>(∀l∈ls,(∀c∈l,isSg c=true)∧l.length≤20000)∧ls.length≤20000
theorem VlOk.lay {x:Vl}(h:VlOk x):LayAt 1 (vlD x):=by
 cases x with
 |txt l=>exact (LayAt.st h.1).le (by decide)
 |int i=>exact (LayAt.iD (o:=some i)).le (by decide)
 |lst ls=>exact layL (n:=0) fun d hd=>by obtain⟨l,hl,rfl⟩:=mem_map.mp hd;exact LayAt.st (h.1 l hl).1
theorem VlOk.small {x:Vl}(h:VlOk x):smallD (vlD x)=true:=by
 cases x with
 |txt l=>simp only[vlD,smallD,j9,decide_eq_true_eq];have:=h.2;lia
 |int i=>rfl
 |lst ls=>exact zV (by rw[length_map];have:=h.2;lia) (mz fun d hd=>by obtain⟨l,hl,rfl⟩:=mem_map.mp hd;simp only[smallD,j9,decide_eq_true_eq];have:=(h.1 l hl).2;lia)
theorem BndV.vls {H:Hp}{l:Addr}{bs:List (List Nat×Vl)}{ys:List V}(hh:BndV H l bs ys):VlsV H (bs.map fun p=>(p.1,vlD p.2)) ys:=by
 induction hh with
 |nil=>exact .nil
 |cons a b _ r ih=>exact .cons a b.is ih
theorem VlsV.isAll {H:Hp}{vs:List (List Nat×PyData)}{xs:List V}(hh:VlsV H vs xs):IsAll H (vs.map fun p=>.tuple [st p.1,p.2]) xs:=by
 induction hh with
 |nil=>exact .nil
 |cons h a r ih=>exact .cons (.tup h (.cons (.str _) (.cons a .nil))) ih
noncomputable def bndD (bs:List (List Nat×Vl)):PyData:=.list ((bs.map fun p=>(p.1,vlD p.2)).map fun p=>.tuple [st p.1,p.2])
theorem Cj {bs:List (List Nat×Vl)}(hn:∀p∈bs,∀c∈p.1,isSg c=true)(hv:∀p∈bs,VlOk p.2):LayAt 3 (bndD bs):=layL fun d hd=>by
 obtain⟨q,hq,rfl⟩:=mem_map.mp hd;obtain⟨p,hp,rfl⟩:=mem_map.mp hq;refine LayAt.tup (n:=1) fun e he=>?_;simp only[mem_cons,not_mem_nil,or_false] at he;rcases he with rfl|rfl
 ·exact (LayAt.st (hn p hp)).le (by decide)
 ·exact (hv p hp).lay
theorem Ck (bs:List (List Nat×Vl)):PyData.eqv (bndD bs) (bndD bs)=true:=pE fun d hd=>by
 obtain⟨q,hq,rfl⟩:=mem_map.mp hd;obtain⟨p,hp,rfl⟩:=mem_map.mp hq;refine eC fun e he=>?_;simp only[mem_cons,not_mem_nil,or_false] at he;rcases he with rfl|rfl
 ·exact d8 _
 ·exact Ci _
theorem jY (xs:List V)(i:Nat):cutV xs none (some (i:Int))=xs.take i:=by
 unfold cutV;rw[HT.sIx_none,HT.sIx_nat,drop_zero,Nat.sub_zero];by_cases h:i≤xs.length
 ·rw[Nat.min_eq_left h]
 ·rw[Nat.min_eq_right (by lia),take_length,take_of_length_le (by lia)]
noncomputable def trS:List Nat:=[97,98,48,49]
noncomputable def trialsM (h t:List Nat):List (List Nat):=trS.map fun c=>h++[c]++t
noncomputable def fitT (c:Pc):List (List Nat):=(match c with|.step w=>[w]|c=>trialsM c.head c.tail).filter (fitsM c)
noncomputable def stepBey (c d:Pc):Option (List Nat):=(fitT c).find? fun s=>!fitsM d s
theorem Cm {c:Pc}{s:List Nat}(h:fitsM c s=true):isDot s=false:=by unfold fitsM at h;rw[Bool.and_eq_true] at h;simpa using h.1
theorem Cn {c:Pc}{s:List Nat}(h:c.isRest=true)(hs:isDot s=false):fitsM c s=true:=by
 cases c <;> first|cases h|skip
 show (!isDot s && true)=true;rw[hs];rfl
theorem Co {ds ts:List Pc}{n:Nat}(h:spreadM ds n=some ts):ts.length=n∧∀i,i < n->(i < ds.length∧ts[i]?=ds[i]?)∨(ds.length≤i∧hasRest ds=true∧∃c,ts[i]?=some c∧c.isRest=true∧c∈ds):=by
 unfold spreadM at h;by_cases hr:hasRest ds=true∧ds.length≤n
 ·rw[if_pos hr] at h;cases h;have ad:ds≠[]:=fun e=>by subst e;exact absurd hr.1 (by decide)
  obtain⟨c,hc⟩:∃c,ds.getLast?=some c:=⟨_,List.getLast?_eq_some_getLast ad⟩;have mt:c.isRest=true:=by have:=hr.1;unfold hasRest at this;rw[hc] at this;exact this
  have hd:ds.drop (ds.length - 1)=[c]:=by rw[List.getLast?_eq_getElem?] at hc;have hl:=length_pos_iff.mpr ad;obtain⟨h1,h2⟩:=List.getElem?_eq_some_iff.mp hc;rw[List.drop_eq_getElem_cons h1,h2,drop_eq_nil_of_le (by lia)]
  rw[hd];have ld:∀k:Nat,(List.replicate k [c]).flatten=List.replicate k c:=fun k=>by
   induction k with
   |zero=>rfl
   |succ k ih=>rw[replicate_succ,flatten_cons,ih];rfl
  rw[ld];refine⟨by rw[length_append,List.length_replicate];lia,fun i hi=>?_⟩;by_cases dl:i < ds.length
  ·exact .inl ⟨dl,List.getElem?_append_left dl⟩
  ·refine .inr ⟨by lia,hr.1,c,?_,mt,List.mem_of_getLast? hc⟩;rw[List.getElem?_append_right (by lia),List.getElem?_replicate,if_pos (by lia)]
 ·rw[if_neg hr] at h;by_cases e:n=ds.length
  ·rw[if_pos e] at h;cases h;exact⟨e.symm,fun i hi=>.inl ⟨by lia,rfl⟩⟩
  ·rw[if_neg e] at h;cases h
theorem Cp {ds:List Pc}{n:Nat}(h:(hasRest ds=true∧ds.length≤n)∨n=ds.length):∃ts,spreadM ds n=some ts:=by
 unfold spreadM;by_cases hr:hasRest ds=true∧ds.length≤n
 ·rw[if_pos hr];exact⟨_,rfl⟩
 ·rw[if_neg hr];rcases h with h|h
  ·exact absurd h hr
  ·rw[if_pos h];exact⟨_,rfl⟩
theorem pF:∀{ms:List Pc}{ss:List (List Nat)},(List.zipWith fitsM ms ss).all id=true↔∀(i:Nat) (c:Pc) (s:List Nat),ms[i]?=some c->ss[i]?=some s->fitsM c s=true
 |[],ss=>⟨fun _ i c s h=>by simp at h,fun _=>rfl⟩
 |c::ms,[]=>⟨fun _ i c s _ h=>by simp at h,fun _=>rfl⟩
 |c::ms,s::ss=>by
  rw[List.zipWith_cons_cons,all_cons,Bool.and_eq_true,pF];constructor
  ·rintro⟨h1,h2⟩ i c' s' hc hs;cases i with
   |zero=>cases hc;cases hs;exact h1
   |succ i=>exact h2 i c' s' hc hs
  ·intro h;exact⟨h 0 c s rfl rfl,fun i c' s' hc hs=>h (i+1) c' s' hc hs⟩
theorem Cq {cs:List Pc}{cl r e:Bool}{ss:List (List Nat)}:fitsP cs cl r ss e=true↔∃ms,spreadM cs ss.length=some ms∧r=true∧e=cl∧∀(i:Nat) (c:Pc) (s:List Nat),ms[i]?=some c->ss[i]?=some s->fitsM c s=true:=by
 unfold fitsP;cases h:spreadM cs ss.length with
 |none=>exact⟨fun h=>(by cases h),fun⟨_,h,_⟩=>(by cases h)⟩
 |some ms=>show (r && decide (e=cl) && _)=true↔_;rw[Bool.and_eq_true,Bool.and_eq_true,decide_eq_true_eq,pF];exact⟨fun⟨⟨a,b⟩,c⟩=>⟨ms,rfl,a,b,c⟩,fun⟨ad,e',a,b,c⟩=>by cases e';exact⟨⟨a,b⟩,c⟩⟩
end Wm
namespace L2
open PySem
section
variable {p:Addr}{fv:St}{tt:TT}{te:TE}{Q:VK}{H1:Hp}
theorem Cr {n:Nat}(f:Nat->Bool)(g:Nat->V)(hlen:n≤sizeLine)(hp:H1 p=none)
  (ht:∀i,i < n->∀(H':Hp) (R:Bool->Hp->Prop),Same H1 H'->(∀H'',Same H' H''->R (f i) H'')->tt (some (.int (0+(i:Int)))::fv) H' R)
  (he:∀i,i < n->f i=true->∀(H':Hp) (T:VK),Same H1 H'->(∀H'',Same H' H''->T (g i) H'')->te (some (.int (0+(i:Int)))::fv) H' T)
  (hQ:∀H',Same H1 H'->H' p=some (.lst (((List.range n).filter f).map g))->Q (.ref p) H'):CompI (Itr 0 n) p fv tt te Q H1:=by
 refine⟨fun i m ys H2=>m=n - i∧i≤n∧ys=((List.range i).filter f).map g∧H2 p=some (.lst ys)∧Same H1 H2,⟨n,by simp,Nat.zero_le _,by simp,aL,fun b o e=>by rw[aN (aY e hp)];exact e⟩,?_⟩;rintro i m ys H2 ⟨rfl,hi,rfl,dl,sm⟩;refine⟨dl,?_⟩;by_cases ad:i < n
 ·refine .inr ⟨ad,?_,fun x H3 y=>?_⟩
  ·rw[length_map];have:=length_filter_le f (List.range i);rw[length_range] at this;lia
  ·obtain⟨rfl,rfl⟩:=y;refine ht i ad _ _ sm fun H4 s4=>?_;by_cases hf:f i=true
   ·rw[if_pos hf];refine he i ad hf _ _ (sm.trans s4) fun H5 s5=>⟨(s4.trans s5) _ _ dl,n - (i+1),by lia,rfl,ad,?_,aL,fun b o e=>?_⟩
    ·rw[range_succ,filter_append,map_append];simp[hf]
    ·rw[aN (aY e hp)];exact (s4.trans s5) _ _ (sm _ _ e)
   ·rw[if_neg hf];refine⟨n - (i+1),by lia,rfl,ad,?_,s4 _ _ dl,sm.trans s4⟩;rw[range_succ,filter_append,map_append];simp[hf]
 ·have e:i=n:=by lia
  subst e;exact .inl ⟨Nat.le_refl _,hQ H2 sm dl⟩
end
end L2
namespace Wm
open PySem L2
noncomputable def PtAt (H:Hp)(cs:List Pc)(e:Bool)(p:Addr):Prop:=∃(q:Addr) (xs:List V),H p=some (.tup [.ref q,.bl e])∧H q=some (.tup xs)∧PcT H cs xs
theorem PtAt.mono {H H':Hp}{cs:List Pc}{e:Bool}{p:Addr}(s:SameT H H')(h:PtAt H cs e p):PtAt H' cs e p:=by obtain⟨q,xs,h1,h2,h3⟩:=h;exact⟨q,xs,s _ _ h1,s _ _ h2,h3.mono s⟩
noncomputable def PcsOk (cs:List Pc):Prop:=cs.length≤90∧∀c∈cs,PcOk c∧PcSg c
theorem Cs {c:Pc}(o:PcOk c)(hn:∀x∈c.name,isSg x=true):PcSg c:=
 ⟨fun l h=>by subst h;exact o.2.2.1,fun h n t e=>by subst e;exact⟨o.2.2.1,o.2.2.2.1⟩,hn⟩
theorem pG {H H':Hp}{a:Addr}(s:Same H H')(h:H' a=none):H a=none:=by
 cases e:H a with
 |none=>rfl
 |some o=>rw[s _ _ e] at h;cases h
theorem ft {H:Hp}{l:Addr}{ys zs:List V}(h:H l=some (.lst zs)):SameT H (upd H l (.lst ys)):=fun b o hb=>by rw[aN (fun w=>by subst w;rw[h] at hb;cases hb)];exact hb
noncomputable def alikeM:Pc->Pc->Bool
 |.step v,.step w=>decide (v=w)
 |.part h _ t,.part h' _ t'=>decide (h=h') && decide (t=t')
 |.num _,.num _=>true
 |.word _,.word _=>true
 |.gap _,.gap _=>true
 |.rest _,.rest _=>true
 |_,_=>false
structure Wid (c d:Pc):Prop where
 ok:PcOk d
 nr:d.isRest=false
 fits:∀s,fitsM c s=true->fitsM d s=true
 grown:alikeM c d=true∨stepBey d c≠none
theorem Ct (h t z:List Nat)(hz:0 < z.length):partB h t (h++z++t)=true:=by
 have ad:(h++z++t).length=h.length+z.length+t.length:=by simp only[length_append]
 unfold partB;simp only[Bool.and_eq_true,decide_eq_true_eq];refine⟨by rw[append_assoc,take_left],?_,by lia⟩;have hd:(h++z++t).length - t.length=(h++z).length:=by rw[ad,length_append];lia
 rw[hd,drop_left]
noncomputable def restM (cs:List Pc):Nat:=if hasRest cs=true then cs.length - 1 else cs.length
structure WidAll (cs ds:List Pc):Prop where
 len:ds.length=restM cs
 wid:∀(i:Nat) (c d:Pc),cs[i]?=some c->ds[i]?=some d->Wid c d
end Wm
namespace L2
open PySem PySem.Spec PySem.W PySem.Calls PyProof.Rows
section
variable {prog:Program}{w:World}{A:Around}{R:Result->Shared->Prop}{I S:Addr}{fp wr:List Addr}{P:Nat->Value->Prop}{St:Nat->Heap->Prop}{n:Nat}
end
section
variable {A:Around}{prog:Program}{w:World}{s:Shared}{E:Value->Shared->Prop}
end
section
variable {X:Cx}{p pos kp kpos:Pos}{e e2:Expr}{t:TA}
end
end L2
namespace Wm
open PySem L2
theorem PcOk.ends {c:Pc}(o:PcOk c):c.head.length≤100∧c.tail.length≤100:=by
 cases c with
 |part h n t=>exact⟨o.1,o.2.1⟩
 |_=>exact⟨Nat.zero_le _,Nat.zero_le _⟩
end Wm
namespace HT
open PySem PyProof.Rows
section
open PySem.SeqAt
open PySem.AutoSeq1 (wpAny_loadPart')
open PySem.MeetsSeq PySem.MeetsSeq2 PySem.MeetsSeq3
end
section
variable {prog:Program}{w:World}{A:Around}{E:Value->Shared->Prop}{s:Shared}
end
end HT
namespace L2
open PySem PySem.Spec PyProof.Rows PyProof.V
section
variable {X:Cx}{o i:Expr}{x:Str}{np pos:Pos}{td ty:TE}
noncomputable def tTab (p:Addr)(D:List (PyData×PyData))(td ty:TE):TE:=fun σ H Q=>td σ H fun x H1=>ty σ H1 fun y H2=>x=.ref p∧∃(k:Str) (n:Int),y=.str k∧lookup (.str k) D=some (.int n)∧Q (.int n) H2
theorem Cu {p:Addr}{D:List (PyData×PyData)}{σ:St}{H:Hp}{Q:VK}:(tTab p D td ty σ H Q)=(td σ H fun x H1=>ty σ H1 fun y H2=>x=.ref p∧∃(k:Str) (n:Int),y=.str k∧lookup (.str k) D=some (.int n)∧Q (.int n) H2):=rfl
end
end L2
namespace Wm
open PySem L2
noncomputable def wordW:Pc->Int
 |.step _=>6
 |.part ..=>5
 |.num _=>4
 |.word _=>3
 |.gap _=>2
 |.rest _=>1
noncomputable def worthM (c:Pc):List Int:=[wordW c,((c.head.length+c.tail.length:Nat):Int),(c.head.length:Int)]
noncomputable def LastR (cs:List Pc):Prop:=∀(i:Nat) (c:Pc),cs[i]?=some c->c.isRest=true->i+1=cs.length
theorem Cv {cs:List Pc}{i:Nat}{c:Pc}(l:LastR cs)(h:cs[i]?=some c)(hr:c.isRest=true):hasRest cs=true:=by have:=l i c h hr;unfold hasRest;rw[List.getLast?_eq_getElem?,<- this,Nat.add_sub_cancel,h];exact hr
structure Wdr (c d:Pc):Prop where
 ok:PcOk d
 fit:∀s,fitsM c s=true->fitsM d s=true
 le:HT.lexLt (worthM c) (worthM d)=false
 nr:d.isRest=c.isRest
theorem Cw {n:Nat}(h:n < 10 ^ 60):numB (dg (n:Int))=true:=by
 have hd:=jO n;have ed:dg (n:Int)=(Nat.toDigits 10 n).map Char.toNat:=by unfold dg;rw[PySem.W.KIN.signs_num]
 have BT:=gB (i:=(n:Int)) (by lia);have ld:(dg (n:Int)).length≤60:=by rw[ed,length_map];exact Cg h
 have dl:dg (n:Int)≠[]:=by rw[ed];exact hd.2.1
 unfold numB;have ad:1≤(dg (n:Int)).length:=length_pos_iff.mpr dl;have mt:(dg (n:Int)).all isFig=true:=all_eq_true.mpr fun x hx=>by have:=BT x hx;simp only[isFig,Bool.and_eq_true,decide_eq_true_eq];exact this
 rw[decide_eq_true ad,decide_eq_true ld,mt];by_cases h0:(dg (n:Int)).head?=some 48
 ·rw[ed] at h0;have:=hd.2.2 h0;subst this;rw[show dg ((0:Nat):Int)=[48] by decide +kernel];decide
 ·rw[decide_eq_false h0];simp
end Wm
namespace L2
open PySem PySem.Spec PyProof.Rows
section
variable {X:Cx}
noncomputable def rIndexL:V->List V->Hp->VK->Prop:=fun x vs H Q=>∃(l:Addr) (xs:List V) (k:Str) (j:Nat),x=.ref l∧vs=[.str k]∧H l=some (.lst xs)∧(∀v∈xs,∃z,v=.str z)∧xs[j]?=some (.str k)∧(∀i,i < j->xs[i]?≠some (.str k))∧Q (.int j) H
theorem Cy {l:Addr}{k:Str}{H:Hp}{Q:VK}:rIndexL (.ref l) [.str k] H Q↔∃(xs:List V) (j:Nat),H l=some (.lst xs)∧(∀v∈xs,∃z,v=.str z)∧xs[j]?=some (.str k)∧(∀i,i < j->xs[i]?≠some (.str k))∧Q (.int j) H:=
 ⟨fun⟨_,xs,_,j,e1,e2,h⟩=>by cases e1;cases e2;exact⟨xs,j,h⟩,fun⟨xs,j,h⟩=>⟨l,xs,k,j,rfl,rfl,h⟩⟩
end
end L2
namespace HT
open PySem PyProof.Rows
section
open PySem.SeqAt
open PySem.AutoSeq1 (wpAny_loadPart')
open PySem.MeetsSeq PySem.MeetsSeq2 PySem.MeetsSeq3
variable {α:Type}{eqf gtf:α->α->Bool}{l b:Addr}{us ws:Array Value}{n n2:Nat}{dd dd2:Option Addr}{sl sl2:Array (Option Value)}{xs ys:List α}
end
end HT
namespace L2
open PySem PySem.Spec PyProof.Rows
section
variable {X:Cx}
end
section
variable {X:Cx}
theorem pH:∀(l:List Str) (n:Nat),Vals (l.map V.str) (strsFrom n l)
 |[],_=>.nil
 |z::l,n=>.cons ⟨n,rfl⟩ (pH l (n+1))
noncomputable def rSplit:V->List V->Hp->VK->Prop:=fun x vs H Q=>∃(z:Str) (c:Nat),x=.str z∧vs=[.str ⟨#[c]⟩]∧z.length≤100000∧∀p,H p=none->Q (.ref p) (upd H p (.lst ((Txt.split z ⟨#[c]⟩).map V.str)))
theorem Cz:MtR X "str.split" rSplit:=by
 intro dl s σ H x vs v us Q I rx rv h;obtain⟨z,c,rfl,rfl,hz,q⟩:=h;obtain⟨t,rfl⟩:=rx;obtain⟨u,rfl,t',rfl⟩:=vals1 rv;have hf:H s.heap.objs.size=none:=I.hok.fresh (Nat.le_refl _);have q:=q _ hf;have hw:=split_weight z ⟨#[c]⟩ (Nat.le_refl 1);have ld:z.length≤sizeLine:=Nat.le_trans hz (by decide);unfold Txt.split at q hw;cases h1:(decide (z.length < (⟨#[c]⟩:Str).length) || decide (Builtin.Str.strKind z < Builtin.Str.strKind ⟨#[c]⟩)) with
 |true=>rw[if_pos h1] at q;refine call_meets F.slot_str_split (typeIs_str _ _ _) F.entry_str_split (F.args_str_split_2 _ _) (meets_str_split_cannot_occur z ⟨#[c]⟩ t t' h1) ?_;refine⟨.ref s.heap.objs.size,_,I.laid (t':=s.toks) (o:=.lst [.str z]) (fun b u e=>Heap.get?_push_of_some _ e) (Nat.le_refl _) ?_,rfl,q⟩;exact⟨by show 1≤sizeLine;decide,[.str z t],0,.cons ⟨_,rfl⟩ .nil,Heap.get?_push_size _ rfl⟩
 |false=>
  rw[if_neg (by rw[h1];decide)] at q hw;cases h2:(Builtin.Str.occurrences z ⟨#[c]⟩ 0 z.length (z.length+1)).isEmpty with
  |true=>rw[if_pos h2] at q;refine call_meets F.slot_str_split (typeIs_str _ _ _) F.entry_str_split (F.args_str_split_2 _ _) (meets_str_split_not_found z ⟨#[c]⟩ t t' h1 rfl h2) ?_;refine⟨.ref s.heap.objs.size,_,I.laid (t':=s.toks) (o:=.lst [.str z]) (fun b u e=>Heap.get?_push_of_some _ e) (Nat.le_refl _) ?_,rfl,q⟩;exact⟨by show 1≤sizeLine;decide,[.str z t],0,.cons ⟨_,rfl⟩ .nil,Heap.get?_push_size _ rfl⟩
  |false=>
   rw[if_neg (by rw[h2];decide)] at q hw;have hn:(Builtin.Str.partsBetween z (Builtin.Str.occurrences z ⟨#[c]⟩ 0 z.length (z.length+1)) (⟨#[c]⟩:Str).length).length≤100001:=by lia
   have ad:(Builtin.Str.partsBetween z (Builtin.Str.occurrences z ⟨#[c]⟩ 0 z.length (z.length+1)) (⟨#[c]⟩:Str).length).length≤sizeLine:=Nat.le_trans hn (by decide);refine call_meets F.slot_str_split (typeIs_str _ _ _) F.entry_str_split (F.args_str_split_2 _ _) (meets_str_split_sep z ⟨#[c]⟩ t t' h1 rfl h2 ld ad) ?_;refine⟨.ref s.heap.objs.size,_,I.laid (o:=.lst _) (fun b u e=>Heap.get?_push_of_some _ e) (Nat.le_refl _) ?_,rfl,q⟩;exact⟨by rw[length_map];exact ad,_,0,pH _ _,Heap.get?_push_size _ rfl⟩
end
theorem CA {z:Str}{c:Nat}{H:Hp}{Q:VK}:rSplit (.str z) [.str ⟨#[c]⟩] H Q↔z.length≤100000∧∀p,H p=none->Q (.ref p) (upd H p (.lst ((Txt.split z ⟨#[c]⟩).map V.str))):=by
 constructor
 ·rintro⟨z',c',e1,e2,h⟩;cases e1;cases e2;exact h
 ·exact fun h=>⟨z,c,rfl,rfl,h⟩
section
variable {prog:Program}{w:World}{A:Around}{E:Value->Shared->Prop}{s:Shared}
end
noncomputable def ItES (x:Str):It:=ItW x.cps.size (fun _=>True) fun i _ ys=>∃c,x.cps[i]?=some c∧ys=[.int (i:Int),.str ⟨#[c]⟩]
section
variable {X:Cx}{elts:List Expr}{kk:Nat}{tpos:Pos}
noncomputable def iEnumS (ta:TA):TI:=fun σ H R=>ta σ H fun vs H1=>∃x:Str,vs=[.str x]∧(x.cps.all fun c=>decide (c < 128))=true∧R (ItES x) H1
variable {σ:St}{H:Hp}{D:Ends}{g:TG}{tb:TS}{aa:TA}
theorem CB:(tFor (iEnumS aa) g tb D σ H)=(aa σ H fun vs H1=>∃x:Str,vs=[.str x]∧(x.cps.all fun c=>decide (c < 128))=true∧LoopI (ItES x) g tb D σ H1):=rfl
end
section
variable {κ:Type}[DecidableEq κ]
noncomputable def valV (kvs:List (κ×V))(k:κ):Option V:=(kvs.find? fun kv=>decide (kv.1=k)).map (·.2)
noncomputable def putK (kvs:List (κ×V))(k:κ)(v:V):List (κ×V):=
 if (kvs.any fun kv=>decide (kv.1=k))=true then kvs.map (fun kv=>if kv.1=k then (kv.1,v) else kv) else kvs++[(k,v)]
end
section
variable {P:Program}{w:World}{H:Hp}{h:Heap}{a:Addr}
end
noncomputable def DGet (H:Hp)(a:Addr)(y:V)(r:Option V):Prop:=
 (∃kvs k,Rd H a (.dK kvs)∧y=kV k∧r=valV kvs k)∨∃kvs k b,Rd H a (.dT kvs)∧y=.ref b∧H b=some (.tup (k.map kV))∧r=valV kvs k
noncomputable def DPut (H:Hp)(a:Addr)(y v:V)(H':Hp):Prop:=
 (∃kvs k,H a=some (.dK kvs)∧y=kV k∧kvs.length < sizeLine∧H'=upd H a (.dK (putK kvs k v))) ∨
 ∃kvs k b,H a=some (.dT kvs)∧y=.ref b∧H b=some (.tup (k.map kV))∧kvs.length < sizeLine∧H'=upd H a (.dT (putK kvs k v))
section
variable {X:Cx}{pins:List (Addr×Obj)}{σ:St}{H:Hp}{s:Shared}{a:Addr}{y v:V}{u r:Value}{o:Option V}{A:Around}{E:Value->Shared->Prop}
end
section
variable {X:Cx}{pins:List (Addr×Obj)}{σ:St}{H:Hp}{s:Shared}{a:Addr}{kvs:List (Key×V)}{k:Key}{u:Value}{A:Around}{E:Value->Shared->Prop}
end
noncomputable def tDGet (td ty:TE):TE:=fun σ H Q=>td σ H fun x H1=>ty σ H1 fun y H2=>∃a v,x=.ref a∧DGet H2 a y (some v)∧Q v H2
noncomputable def sDPut (td ty tv:TE):TS:=fun D σ H=>tv σ H fun v H1=>td σ H1 fun x H2=>ty σ H2 fun y H3=>∃a H4,x=.ref a∧DPut H3 a y v H4∧D.nx σ H4
section
variable {X:Cx}{o i e value:Expr}{pos pos' tpos:Pos}{td ty tv:TE}
end
noncomputable def tDNewK:TE:=fun _ H Q=>∀p,H p=none->Q (.ref p) (upd H p (.dK []))
section
variable {X:Cx}{pos:Pos}
end
noncomputable def tPairs:List (TE×TE)->St->Hp->(List (V×V)->Hp->Prop)->Prop
 |[],_,H,Q=>Q [] H
 | (tk,tv)::r,σ,H,Q=>tk σ H fun x H1=>tv σ H1 fun y H2=>tPairs r σ H2 fun ps H3=>Q ((x,y)::ps) H3
noncomputable def mergeK (kvs more:List (Key×V)):List (Key×V):=more.foldl (fun acc kv=>putK acc kv.1 kv.2) kvs
noncomputable def tDisp (trs:List (TE×TE)):TE:=fun σ H Q=>∀p,H p=none->tPairs trs σ (upd H p (.dK [])) fun ps H2=>H2 p=some (.dK [])∧∃kvs:List (Key×V),ps=kvs.map (fun kv=>(kV kv.1,kv.2))∧kvs.length≤15∧Q (.ref p) (upd H2 p (.dK (mergeK [] kvs)))
structure M1 (X:Cx)(o:Expr)(m:Str)(apos:Pos)(e:Expr)(cpos:Pos):Prop where
 base:attributeBase o m X.env (eval o X.env)=eval o X.env
 few:((backTo cpos (starEach [e] X.env)).all (fun x=>!x.1) && (backToKw cpos (keywordEach [] X.env)).all (fun x=>x.1.isSome)
  && decide (([e]:List Expr).length+([]:List Keyword).length+(if ([]:List Keyword).isEmpty then 0 else 1) < 30))=true
 line:(apos.endLine == cpos.line)=true
 trees:backTo cpos (starEach [e] X.env)=[(false,eval e X.env)]
structure M2 (X:Cx)(o:Expr)(m:Str)(apos:Pos)(e f:Expr)(cpos:Pos):Prop where
 base:attributeBase o m X.env (eval o X.env)=eval o X.env
 few:((backTo cpos (starEach [e,f] X.env)).all (fun x=>!x.1) && (backToKw cpos (keywordEach [] X.env)).all (fun x=>x.1.isSome)
  && decide (([e,f]:List Expr).length+([]:List Keyword).length+(if ([]:List Keyword).isEmpty then 0 else 1) < 30))=true
 line:(apos.endLine == cpos.line)=true
 trees:backTo cpos (starEach [e,f] X.env)=[(false,eval e X.env),(false,eval f X.env)]
noncomputable def IsD (H:Hp)(a:Addr):Prop:=(∃kvs,Rd H a (.dK kvs))∨∃kvs,Rd H a (.dT kvs)
section
variable {X:Cx}{pins:List (Addr×Obj)}{σ:St}{H:Hp}{s:Shared}{a:Addr}{y d:V}{u r:Value}{o:Option V}{A:Around}{E:Value->Shared->Prop}
end
noncomputable def tDGet2 (td ty tx:TE):TE:=fun σ H Q=>td σ H fun x H1=>∃a,x=.ref a∧IsD H1 a∧ty σ H1 fun y H2=>tx σ H2 fun z H3=>∃o,DGet H3 a y o∧Q (o.getD z) H3
section
variable {X:Cx}{o e f:Expr}{apos cpos:Pos}{td ty tx:TE}
end
section
variable {X:Cx}{pins:List (Addr×Obj)}{σ:St}{H:Hp}{s:Shared}{a:Addr}{kvs:List (Key×V)}{A:Around}{E:Value->Shared->Prop}
end
section
variable {X:Cx}{pins:List (Addr×Obj)}{σ:St}{H:Hp}{s:Shared}{a:Addr}{y:V}{u:Value}{A:Around}{E:Value->Shared->Prop}
end
end L2
namespace PySem
open PyProof.Rows
section
variable {K:Type}[DecidableEq K]
noncomputable def fstU (l:List K):List K:=l.foldl (fun acc k=>if k∈acc then acc else acc++[k]) []
theorem jZ (l:List K)(k:K):fstU (l++[k])=if k∈fstU l then fstU l else fstU l++[k]:=by unfold fstU;rw[List.foldl_append];rfl
theorem ja:∀(n:Nat) (l:List K),l.length=n->∀k,k∈fstU l↔k∈l
 |0,l,h,k=>by rw[length_eq_zero_iff.mp h];exact Iff.rfl
 |n+1,l,h,k=>by
  obtain⟨l',x,rfl⟩:∃l' x,l=l'++[x]:=⟨l.dropLast,l.getLast (fun z=>by rw[z] at h;cases h),(List.dropLast_concat_getLast _).symm⟩;have ih:=ja n l' (by rw[length_append,length_singleton] at h;lia);rw[jZ,mem_append,mem_singleton];split
  ·next hx=>
   rw[ih k];exact⟨.inl,fun z=>by rcases z with z|rfl;exact z;exact (ih _).mp hx⟩
  ·rw[mem_append,mem_singleton,ih k]
theorem gS:∀(n:Nat) (l:List K),l.length=n->((fstU l).length≤l.length∧((fstU l).length=l.length↔l.Nodup))
 |0,l,h=>by rw[length_eq_zero_iff.mp h];simp[fstU]
 |n+1,l,h=>by
  obtain⟨l',x,rfl⟩:∃l' x,l=l'++[x]:=⟨l.dropLast,l.getLast (fun z=>by rw[z] at h;cases h),(List.dropLast_concat_getLast _).symm⟩;have hl:l'.length=n:=by rw[length_append,length_singleton] at h;lia
  obtain⟨i1,i2⟩:=gS n l' hl;have im:=ja n l' hl x;have hp:(l'++[x]).Nodup↔x∉l'∧l'.Nodup:=by rw[<- nodup_cons];exact (List.perm_append_singleton x l').nodup_iff
  rw[hp,jZ,length_append,length_singleton];split
  ·next hx=>
   refine⟨by lia,fun z=>?_,fun z=>absurd (im.mp hx) z.1⟩;exact absurd z (by lia)
  ·next hx=>
   rw[length_append,length_singleton];refine⟨by lia,fun z=>⟨fun y=>hx (im.mpr y),i2.mp (by lia)⟩,fun z=>by rw[i2.mpr z.2]⟩
end
section
variable {prog:Program}{w:World}{K:Type}[DecidableEq K]{knd:KeyKind prog w K}{A:Around}{R:Result->Shared->Prop}{h0:Heap}{d it l:Addr}{items:Array Value}{ks:List K}
theorem pI {h:Heap}{S S':K->Bool}{n n':Nat}(e:∀k,S k=S' k)(en:n=n')(hs:h.SetOf knd d S n):h.SetOf knd d S' n':=by subst en;rw[<- (funext e:S=S')];exact hs
theorem CC (hd0:h0.get? d=none)(hi0:h0.get? it=none)(hdi:d≠it)(hl:h0.IsList l items)(hp:∀(i:Nat) (x:Value),items[i]?=some x->∃k,ks[i]?=some k∧knd.is k x=true∧x.scannable=true)(hn:items.size=ks.length)(hsz:ks.length+1 < scanBound)(hh:A.in1.handled=none) :
  ∀(k i:Nat) (s:Shared),items.size - i=k->i≤items.size->(∀b o,h0.get? b=some o->s.heap.get? b=some o)->s.heap.IsListIter it l i->s.heap.SetOf knd d (fun k=>decide (k∈ks.take i)) (fstU (ks.take i)).length ->
  (∀(h':Heap) (n:Nat),(∀b o,h0.get? b=some o->h'.get? b=some o)->h'.SetOf knd d (fun k=>decide (k∈ks)) (fstU ks).length->R (.ok (.ret .none)) {s with heap:=h',toks:=n}) ->
  codeAny (model prog w) A (.builtin "set.update.loop" ⟨[.ref d,.ref it],[]⟩) R s:=by
 intro k;induction k with
 |zero=>intro i s hk hi sm hit hd hR;have Fr:i=items.size:=Nat.le_antisymm hi (by lia);obtain⟨o,ho,r⟩:=hl;refine codeAny_builtin F.entry_set_update_loop ?_;rw[Around.under_plainId F.plain_set_update_loop _];show wpAny _ A.in1 (pyNext (.ref it) >>= _) _ _ s;refine wpAny_bind (wpAny_pyNext_list_end hh hit ⟨o,sm _ _ ho,r⟩ (by rw[Fr];simp) fun h' he=>?_);rw[Fr,hn,take_length] at hd;refine wpAny_pure (hR h' s.toks (fun b o e=>he b o (fun z=>by rw[z,hi0] at e;cases e) (sm b o e)) ?_);obtain⟨o,es,ep,t,h1,h2⟩:=hd;exact⟨o,es,ep,t,he d o hdi h1,h2⟩
 |succ k ih=>
  intro i s hk hi sm hit hd hR;have Fn:i < items.size:=Nat.lt_of_sub_pos (by lia);obtain⟨dl,FB,ad,Fz⟩:=hp i items[i] (Array.getElem?_eq_getElem Fn);obtain⟨ol,FA,rl⟩:=id hl;refine codeAny_builtin F.entry_set_update_loop ?_;rw[Around.under_plainId F.plain_set_update_loop _];show wpAny _ A.in1 (pyNext (.ref it) >>= _) _ _ s;refine wpAny_bind (wpAny_pyNext_list_item hit ⟨ol,sm _ _ FA,rl⟩ (x:=items[i]) (Array.getElem?_eq_getElem Fn) fun h1 mt Cl=>?_);have Fy:∀b o,h0.get? b=some o->h1.get? b=some o:=fun b o e=>by rw[Cl.2 b (fun z=>by rw[z,hi0] at e;cases e)];exact sm b o e
  have FE:h1.SetOf knd d (fun k=>decide (k∈ks.take i)) (fstU (ks.take i)).length:=by obtain⟨o,es,ep,t,e1,e2⟩:=hd;exact⟨o,es,ep,t,by rw[Cl.2 d hdi];exact e1,e2⟩
  have FF:=(gS _ (ks.take i) rfl).1;have FC:=ja _ (ks.take i) rfl;rw[length_take] at FF;refine wpAny_bind (wpAny_holding ?_);unfold setAdd;refine wpAny_holding (wpAny_bind (knd.pyHash ad ?_));refine wpAny_setAddHashed_of (s:={ s with heap:=h1,toks:=_}) ad Fz FE (by lia) fun h2 BT FD=>?_;have Fx:∀b o,h0.get? b=some o->h2.get? b=some o:=fun b o e=>by rw[BT.2 b (fun z=>by rw[z,hd0] at e;cases e)];exact Fy b o e
  have ld:h2.IsListIter it l (i+1):=by obtain⟨o,e1,e2⟩:=mt;exact⟨o,by rw[BT.2 it (Ne.symm hdi)];exact e1,e2⟩
  have et:ks.take (i+1)=ks.take i++[dl]:=by rw[take_add_one,FB];rfl
  refine wpAny_pure ⟨plainId_quiet F.plain_set_update_loop _,?_⟩;refine ih (i+1) _ (by lia) (by lia) Fx ld (pI (fun k=>?_) ?_ FD) (fun h' n e1 e2=>hR h' n e1 e2)
  ·rw[et];by_cases h1:k∈ks.take i
   ·rw[decide_eq_true h1,decide_eq_true (mem_append_left _ h1)];rfl
   ·by_cases h2:k=dl
    ·rw[decide_eq_true h2,decide_eq_true (mem_append_right _ (mem_singleton.mpr h2)),Bool.or_true]
    ·rw[decide_eq_false h1,decide_eq_false h2,decide_eq_false (fun z=>by rcases mem_append.mp z with y|y;exact h1 y;exact h2 (mem_singleton.mp y))];rfl
  ·rw[et,jZ];by_cases h1:dl∈ks.take i
   ·rw[if_pos (decide_eq_true h1),if_pos ((FC _).mpr h1)]
   ·rw[if_neg (by rw[decide_eq_false h1];decide),if_neg (fun z=>h1 ((FC _).mp z)),length_append];rfl
end
section
variable {prog:Program}{w:World}{K:Type}[DecidableEq K]{knd:KeyKind prog w K}{A:Around}{E:Value->Shared->Prop}{s:Shared}{l:Addr}{items:Array Value}{ks:List K}{Q:Value->Shared->Prop}
theorem CD (hl:s.heap.IsList l items)(hp:∀(i:Nat) (x:Value),items[i]?=some x->∃k,ks[i]?=some k∧knd.is k x=true∧x.scannable=true)(hn:items.size=ks.length)(hsz:ks.length+1 < scanBound)(hA:A.handled=none)
  (h:∀(h':Heap) (n:Nat),(∀b o,s.heap.get? b=some o->h'.get? b=some o)->h'.SetOf knd s.heap.objs.size (fun k=>decide (k∈ks)) (fstU ks).length->Q (.ref s.heap.objs.size) {s with heap:=h',toks:=n}) :
  wpAny (model prog w) A (call (.type "set") [.ref l]) Q E s:=by
 obtain⟨c,tl,mt⟩:=F.called_set.mro;have Fn:=F.called_set.made;have Fz:=F.called_set.sub;have h1:=F.called_set.notType;have h2:=F.called_set.canCreate;refine wpAny_call (codeAny_of_tree (wpAny_pure ⟨Code.quiet_builtin _ (by decide +kernel),codeAny_builtin F.entry_type_call ?_⟩));rw[Around.under_plain (weight_type_call_type "set" [.ref l] []) rfl];unfold Builtin.«type.__call__»;refine wpAny_ite_false (by rw[h1];rfl) ?_;refine wpAny_ite_false (by rw[h2];rfl) ?_;refine wpAny_bind (wpAny_of_eq (F.typeCall_set_1 _) ?_);refine wpAny_bind (wpAny_of_eq mt ?_);refine wpAny_ite_false rfl ?_;refine wpAny_bind (wpAny_of_eq Fn ?_);refine wpAny_bind (wpAny_pure ?_);show wpAny _ _ (holding [Value.builtin "set.__new__"] (call (Value.builtin "set.__new__") [.type "set",.ref l] []) >>= _) _ _ _;refine wpAny_bind (wpAny_holding (wpAny_call (codeAny_mono (code_set_new_1 (E:=E) (Q₁:=fun x s₁=>∃ad,x=.ref s.heap.objs.size∧s₁={ s with heap:=s.heap.push {cls:=.type "set",data:=.set #[] 0 (SetTable.fresh 0 0 ad)} }) (.ref l) fun ad=>⟨ad,rfl,rfl⟩) fun r s₁ hr=>?_)));cases r with
 |error e=>exact hr
 |ok fl=>
  cases fl with
  |next=>exact hr
  |brk=>exact hr
  |cont=>exact hr
  |ret v=>
   obtain⟨ad,rfl,rfl⟩:=hr;have ns:(s.heap.push {cls:=.type "set",data:=.set #[] 0 (SetTable.fresh 0 0 ad)}).get? s.heap.objs.size=some {cls:=.type "set",data:=.set #[] 0 (SetTable.fresh 0 0 ad)}:=Heap.get?_push_size _ rfl;have ty:({s with heap:=s.heap.push {cls:=.type "set",data:=.set #[] 0 (SetTable.fresh 0 0 ad)} }:Shared).TypeIs (.ref s.heap.objs.size) "set" := ⟨_,ns,rfl⟩;refine wpAny_bind (wpAny_isInstance ty Fz ?_);refine wpAny_ite_false rfl ?_;refine wpAny_bind (wpAny_holding ?_);unfold callSpecial?;refine wpAny_bind (wpAny_specialOf ty F.called_set.init.lookup ?_);refine wpAny_holding (wpAny_bind (wpAny_of_eq (F.called_set.init.bind _) ?_));refine wpAny_bind (wpAny_call (codeAny_mono (R:=wants (fun r s₂=>r=Value.none∧Q (.ref s.heap.objs.size) s₂) E) (codeAny_call_builtin F.called_set.init.plain F.entry_set_init (check_set_init_1 ty ?_)) fun r₂ s₂ dl=>?_));rotate_left
   ·cases r₂ with
    |error e=>exact dl
    |ok fl=>
     cases fl with
     |next=>exact dl
     |brk=>exact dl
     |cont=>exact dl
     |ret v=>obtain⟨rfl,hq⟩:=dl;exact wpAny_pure (wpAny_ite_false rfl (wpAny_pure hq))
   have ld:∀b o,s.heap.get? b=some o->(s.heap.push {cls:=.type "set",data:=.set #[] 0 (SetTable.fresh 0 0 ad)}).get? b=some o:=fun b o e=>Heap.get?_push_of_some _ e;obtain⟨ol,Cl,rl⟩:=id hl;have Fx:(s.heap.push {cls:=.type "set",data:=.set #[] 0 (SetTable.fresh 0 0 ad)}).IsList l items:=⟨ol,ld _ _ Cl,rl⟩;have Fy:({s with heap:=s.heap.push {cls:=.type "set",data:=.set #[] 0 (SetTable.fresh 0 0 ad)} }:Shared).TypeIs (.ref l) "list" := ⟨ol,ld _ _ Cl,rl.1⟩;have hsub1:=F.sub_list_set;have hsub2:=F.sub_list_frozenset;generalize hG:s.heap.push {cls:=.type "set",data:=.set #[] 0 (SetTable.fresh 0 0 ad)}=G at ns ty ld Fx Fy ⊢;unfold Builtin.«set.__init__»
   wp_walk using wpAny_pyIter_list Fx
   have BT:∀b,s.heap.objs.size≤b->s.heap.get? b=none:=fun b hb=>by
    cases e:s.heap.get? b with
    |none=>rfl
    |some o=>exact absurd (Heap.lt_size e) (Nat.not_lt.mpr hb)
   have Fr:s.heap.objs.size < G.objs.size:=Heap.lt_size ns;have FA:(G.push {cls:=.type "list_iterator",data:=.fields #[.ref l,.int 0 0]}).SetOf knd s.heap.objs.size (fun k=>decide (k∈ks.take 0)) (fstU (ks.take 0)).length:=by
    letI:BEq K:=instBEqOfDecidableEq
    refine pI (S:=fun _=>false) (fun k=>?_) rfl ((setObjOf_fresh (knd:=knd) ad).setOf (Heap.get?_push_of_some _ ns) (by decide));rw[take_zero,decide_eq_false not_mem_nil]
   exact @CC prog w K _ knd A.in1.in1 _ s.heap s.heap.objs.size G.objs.size l items ks (BT _ (Nat.le_refl _)) (BT _ (Nat.le_of_lt Fr)) (Nat.ne_of_lt Fr) hl hp hn hsz hA items.size 0
    { s with heap:=G.push {cls:=.type "list_iterator",data:=.fields #[.ref l,.int 0 0]} } rfl (Nat.zero_le _) (fun b o e=>Heap.get?_push_of_some _ (ld b o e)) ⟨_,Heap.get?_push_size _ rfl,rfl,rfl⟩ FA (fun h' n e1 e2=>wpAny_pure (wpAny_pure ⟨rfl,h h' n e1 e2⟩))
end
end PySem
namespace L2
open PySem PySem.Spec PyProof.Rows
section
variable {X:Cx}
theorem pJ:∀{ss:List Str}{its:List Value},Vals (ss.map V.str) its->its.length=ss.length∧∀(i:Nat) (x:Value),its[i]?=some x->∃z t,ss[i]?=some z∧x=.str z t
 |[],_,h=>by cases h;exact⟨rfl,fun i x h=>by simp at h⟩
 |z::ss,_,h=>by
  cases h with
  |cons r rs=>
   obtain⟨h1,h2⟩:=pJ rs;obtain⟨t,rfl⟩:=r;refine⟨by simp[h1],fun i x hx=>?_⟩;cases i with
   |zero=>cases hx;exact⟨z,t,rfl,rfl⟩
   |succ i=>exact h2 i x (by simpa using hx)
noncomputable def tLenSet (ta:TA):TE:=fun σ H Q=>ta σ H fun vs H1=>∃(l:Addr) (ss:List Str),vs=[.ref l]∧H1 l=some (.lst (ss.map V.str))∧ss.length≤1000∧Q (.int ((fstU ss).length:Nat)) H1
theorem CF {a:Expr}{ta:TA}{p p' pos pos':Pos}(hc:X.calm=true)(hg:Gl X "set")(hm:X.mg "set"=none)(hl:Gl X "len")(hlm:X.mg "len"=none)(hb:bootBuiltins "len"=some (.builtin "len"))(ha:PA X [a] ta)
  (hs:starEach [a] X.env=[(false,eval a X.env)]:=by rfl)
  (hs':starEach [.Call (.Name "set" p) [a] [] pos] X.env=[(false,eval (.Call (.Name "set" p) [a] [] pos) X.env)]:=by rfl) :
  PE X (.Call (.Name "len" p') [.Call (.Name "set" p) [a] [] pos] [] pos') (tLenSet ta):=by
 intro ad s σ H Q I h;refine wpAny_Call_Name_kw (bt I hl hlm hb (PyProof.Rows.callWith_builtin1 ?_ hs' rfl) (by decide) (by decide));rw[hs'];refine Calls.spliced_cons ?_;refine wpAny_Call_Name_kw (bt I hg hm boot_set (PyProof.Rows.callWith_type1 (thn (ha pos ad s σ H _ I h) fun us s1 W'=>?_) hs rfl) (by decide) (by decide));obtain⟨vs,H1,I1,r1,q1⟩:=W';obtain⟨l,ss,e,mt,hz,q⟩:=q1;subst e;obtain⟨u,rfl,r⟩:=vals1 r1;cases r;obtain⟨z,ld,n,rv,e⟩:=I1.hok l _ mt;obtain⟨v1,v2⟩:=pJ rv;have hfn:=(gS _ ss rfl).1;refine CD (knd:=PySem.strKind X.prog X.w) (ks:=ss) (items:=ld.toArray) ⟨_,e,rfl,_,rfl⟩ (fun i x hx=>?_) (by rw[size_toArray];exact v1) (by show ss.length+1 < 4096;lia) (I1.ok.hd hc) fun h' t' sm dl=>?_
 ·obtain⟨y,t,h1,rfl⟩:=v2 i x (by simpa using hx);exact⟨y,h1,PySem.strKind_is _ _ _ _,rfl⟩
 have I2:Inv X ad σ H1 {s1 with heap:=h',toks:=t' }:=I1.kept sm;refine Calls.spliced_nil ?_;obtain⟨o,es,ep,tt,g1,g2,g3,g4,g5,g6,g7,g8⟩:=dl;refine call_len_set (s:={ s1 with heap:=h',toks:=t' }) g1 g2 g3 g7 (by rw[g8];lia) ?_;rw[g8];refine⟨.int _,H1,I1.kept (t':=t'+1+1) sm,⟨_,rfl⟩,q⟩
end
theorem CG {ta:TA}{σ:St}{H:Hp}{Q:VK}:(tLenSet ta σ H Q)=(ta σ H fun vs H1=>∃(l:Addr) (ss:List Str),vs=[.ref l]∧H1 l=some (.lst (ss.map V.str))∧ss.length≤1000∧Q (.int ((fstU ss).length:Nat)) H1):=rfl
end L2
namespace L2
open PySem PyProof.Rows PySem.Spec
section
variable {td ty tv:TE}{σ:St}{H:Hp}{Q:VK}{D:Ends}
theorem CH:(tDGet td ty σ H Q)=(td σ H fun x H1=>ty σ H1 fun y H2=>∃a v,x=.ref a∧DGet H2 a y (some v)∧Q v H2):=rfl
theorem CI:(sDPut td ty tv D σ H)=(tv σ H fun v H1=>td σ H1 fun x H2=>ty σ H2 fun y H3=>∃a H4,x=.ref a∧DPut H3 a y v H4∧D.nx σ H4):=rfl
theorem CJ:(tDNewK σ H Q)=(∀p,H p=none->Q (.ref p) (upd H p (.dK []))):=rfl
theorem CK {trs:List (TE×TE)}:(tDisp trs σ H Q)=(∀p,H p=none->tPairs trs σ (upd H p (.dK [])) fun ps H2=>H2 p=some (.dK [])∧∃kvs:List (Key×V),ps=kvs.map (fun kv=>(kV kv.1,kv.2))∧kvs.length≤15∧Q (.ref p) (upd H2 p (.dK (mergeK [] kvs)))):=rfl
theorem CL {R:List (V×V)->Hp->Prop}:(tPairs [] σ H R)=(R [] H):=rfl
theorem CM {tk tv:TE}{r:List (TE×TE)}{R:List (V×V)->Hp->Prop}:(tPairs ((tk,tv)::r) σ H R)=(tk σ H fun x H1=>tv σ H1 fun y H2=>tPairs r σ H2 fun ps H3=>R ((x,y)::ps) H3):=rfl
theorem CN {tx:TE}:(tDGet2 td ty tx σ H Q)=(td σ H fun x H1=>∃a,x=.ref a∧IsD H1 a∧ty σ H1 fun y H2=>tx σ H2 fun z H3=>∃o,DGet H3 a y o∧Q (o.getD z) H3):=rfl
end
end L2
namespace L2
open PySem
section
variable {K:W.Frag}{p:Addr}{fv:St}{tt:TT}{te:TE}{Q:VK}{H1:Hp}
theorem CO {a:Addr}{xs:List V}(t:Nat->Bool)(g:Nat->V)(hxs:SqL K H1 a xs)(hlen:xs.length≤sizeLine)(hp:H1 p=none)
  (ht:∀(i:Nat) (x:V),xs[i]?=some x->∀(H':Hp) (R:Bool->Hp->Prop),Same H1 H'->(∀H'',Same H' H''->R (t i) H'')->tt (some x::fv) H' R)
  (he:∀(i:Nat) (x:V),xs[i]?=some x->t i=true->∀(H':Hp) (T:VK),Same H1 H'->(∀H'',Same H' H''->T (g i) H'')->te (some x::fv) H' T)
  (hQ:∀H',Same H1 H'->H' p=some (.lst (((List.range xs.length).filter t).map g))->Q (.ref p) H'):CompI (Itl K a) p fv tt te Q H1:=by
 refine⟨fun i m ys H2=>m=xs.length - i∧i≤xs.length∧ys=((List.range i).filter t).map g∧H2 p=some (.lst ys)∧Same H1 H2,⟨xs.length,by simp,Nat.zero_le _,by simp,aL,fun b o e=>by rw[aN (aY e hp)];exact e⟩,?_⟩;rintro i m ys H2 ⟨rfl,hi,rfl,ad,sm⟩;refine⟨ad,?_⟩;have q:=sm.seq hxs;by_cases dl:i < xs.length
 ·refine .inr ⟨⟨xs,xs[i],q,by simp[dl]⟩,?_,fun x H3 y=>?_⟩
  ·rw[length_map];have:=length_filter_le t (List.range i);rw[length_range] at this;lia
  ·obtain⟨rfl,y⟩:=y;have hc:=y xs q;refine ht i x hc _ _ sm fun H4 s4=>?_;by_cases hf:t i=true
   ·rw[if_pos hf];refine he i x hc hf _ _ (sm.trans s4) fun H5 s5=>⟨(s4.trans s5) _ _ ad,xs.length - (i+1),by lia,rfl,dl,?_,aL,fun b o e=>?_⟩
    ·rw[range_succ,filter_append,map_append];simp[hf]
    ·rw[aN (aY e hp)];exact (s4.trans s5) _ _ (sm _ _ e)
   ·rw[if_neg hf];refine⟨xs.length - (i+1),by lia,rfl,dl,?_,s4 _ _ ad,sm.trans s4⟩;rw[range_succ,filter_append,map_append];simp[hf]
 ·have e:i=xs.length:=by lia
  subst e;exact .inl ⟨⟨xs,q,Nat.le_refl _⟩,hQ H2 sm ad⟩
end
end L2
namespace Wm
open PySem L2
noncomputable abbrev Rw:=List Nat×(List Pc×Bool)
noncomputable def RwAt (H:Hp)(r:Rw)(v:V):Prop:=∃a p:Addr,v=.ref a∧H a=some (.tup [tV r.1,.ref p])∧PtAt H r.2.1 r.2.2 p
theorem RwAt.mono {H H':Hp}{r:Rw}{v:V}(s:SameT H H'):RwAt H r v->RwAt H' r v:=fun⟨a,p,e,h1,h2⟩=>⟨a,p,e,s _ _ h1,h2.mono s⟩
inductive TbV (H:Hp):List Rw->List V->Prop
 |nil:TbV H [] []
 |cons {r:Rw}{v:V}{rs:List Rw}{vs:List V}:RwAt H r v->TbV H rs vs->TbV H (r::rs) (v::vs)
theorem TbV.mono {H H':Hp}(s:SameT H H'){rs:List Rw}{vs:List V}(hh:TbV H rs vs):TbV H' rs vs:=by
 induction hh with
 |nil=>exact .nil
 |cons h t ih=>exact .cons (h.mono s) ih
theorem TbV.length {H:Hp}{rs:List Rw}{vs:List V}(hh:TbV H rs vs):vs.length=rs.length:=by
 induction hh with
 |nil=>exact rfl
 |cons h t ih=>rw[length_cons,length_cons,ih]
theorem TbV.get {H:Hp}{rs:List Rw}{vs:List V}(hh:TbV H rs vs){i:Nat}{v:V}(e:vs[i]?=some v):∃r,rs[i]?=some r∧RwAt H r v:=by
 induction hh generalizing i with
 |nil=>cases e
 |cons h _ ih=>
  cases i with
  |zero=>cases e;exact⟨_,rfl,h⟩
  |succ i=>exact ih e
end Wm
namespace PySem
section
variable {prog:Program}{w:World}{K:Type}[DecidableEq K]{knd:KeyKind prog w K}{A:Around}{R:Result->Shared->Prop}{h0:Heap}{d it l:Addr}{items:Array Value}{ps:List (K×Value)}
end
section
variable {prog:Program}{w:World}{K:Type}[DecidableEq K]{knd:KeyKind prog w K}{A:Around}{E:Value->Shared->Prop}{s:Shared}{l:Addr}{items:Array Value}{ps:List (K×Value)}{c:Nat}{sl:Array (Option Value)}{Q:Value->Shared->Prop}
end
end PySem
namespace L2
open PySem PySem.Spec PyProof.Rows
section
variable {X:Cx}{pins:List (Addr×Obj)}{σ:St}{H:Hp}{s:Shared}
end
end L2
namespace Wm
open PySem L2
noncomputable def GvOk (c:Pc)(x:Vl):Prop:=match c with
 |.part h _ t=>∃s:List Nat,x=.txt s∧s≠[]∧(∀z∈s,isSg z=true)∧s.length≤400∧isDot (h++s++t)=false
 |.num _=>∃n:Int,x=.int n∧0≤n∧n < 10 ^ 60
 |.word _=>∃s:List Nat,x=.txt s∧s.all isSma=true∧1≤s.length∧s.length≤60
 |.gap _=>∃s:List Nat,x=.txt s∧SgT s∧s.length≤400∧isDot s=false
 |.rest _=>∃ls:List (List Nat),x=.lst ls∧ls≠[]∧ls.length≤50∧∀s∈ls,SgT s∧s.length≤400∧isDot s=false
 |.step _=>False
inductive GvA:List Pc->List (List Nat×Vl)->Prop
 |nil:GvA [] []
 |step {w:List Nat}{cs:List Pc}{bs:List (List Nat×Vl)}:GvA cs bs->GvA (.step w::cs) bs
 |gap {c:Pc}{x:Vl}{cs:List Pc}{bs:List (List Nat×Vl)}:c.isStep=false->GvOk c x->GvA cs bs->GvA (c::cs) ((c.name,x)::bs)
noncomputable def stM (c:Pc)(x:Vl):List (List Nat):=match x with
 |.txt s=>[c.head++s++c.tail]
 |.int n=>[dg n]
 |.lst ls=>ls
noncomputable def stpsM:List Pc->List (List Nat×Vl)->List (List Nat)
 |[],_=>[]
 |.step w::cs,bs=>w::stpsM cs bs
 |c::cs,b::bs=>stM c b.2++stpsM cs bs
 |_::_,[]=>[]
theorem d9 {c:Pc}{cs:List Pc}{b:List Nat×Vl}{bs:List (List Nat×Vl)}(h:c.isStep=false):stpsM (c::cs) (b::bs)=stM c b.2++stpsM cs bs:=by
 cases c with
 |step w=>cases h
 |_=>rfl
theorem CP (h t s:List Nat):amid h t (h++s++t)=s:=by
 unfold amid;rw[append_assoc,drop_left];have:(h++(s++t)).length - t.length - h.length=s.length:=by simp only[length_append];lia
 rw[this,take_left]
theorem CQ (n:Nat):valD ((Nat.toDigits 10 n).map Char.toNat)=n:=by
 induction n using Nat.strongRecOn with
 |ind n ih=>
  by_cases h:n < 10
  ·rw[Nat.toDigits_of_lt_base (by lia)];have:∀d,d < 10->valD ([Nat.digitChar d].map Char.toNat)=d:=by decide
   exact this n h
  ·rw[Nat.toDigits_of_base_le (by decide) (by lia),map_append];show valD (_++[(Nat.digitChar (n % 10)).toNat])=n;have:∀d,d < 10->(Nat.digitChar d).toNat - 48=d:=by decide
   rw[cb,ih (n / 10) (by lia),this (n % 10) (Nat.mod_lt _ (by decide))];lia
theorem CS (n:Nat):dg (n:Int)=(Nat.toDigits 10 n).map Char.toNat:=by unfold dg;rw[PySem.W.KIN.signs_num]
theorem pK {s:List Nat}(h:∀c∈s,c≠46):isDot s=false:=by
 cases hd:isDot s with
 |false=>rfl
 |true=>
  exfalso;cases s with
  |nil=>exact absurd hd (by decide)
  |cons c r=>have hc:=h c (mem_cons_self ..);unfold isDot at hd;simp[sStay,sUp] at hd;lia
theorem pL {c:Pc}{x:Vl}(ok:PcOk c)(hs:c.isStep=false)(hr:c.isRest=false)(h:GvOk c x):∃s,stM c x=[s]∧fitsM c s=true∧(∀r,bvM c (s::r)=x)∧SgT s∧s.length≤600:=by
 cases c with
 |step w=>cases hs
 |rest n=>cases hr
 |part a n t=>
  obtain⟨s,rfl,h1,h2,h3,h4⟩:=h;obtain⟨o1,o2,o3,o4,_⟩:=ok;refine⟨a++s++t,rfl,?_,fun r=>?_,⟨by simp[h1],fun z hz=>?_⟩,by simp only[length_append];lia⟩
  ·show (!isDot (a++s++t) && partB a t (a++s++t))=true;rw[h4,Ct a t s (length_pos_iff.mpr h1)];rfl
  ·show Vl.txt (amid a t (a++s++t))=_;rw[CP]
  ·rcases mem_append.mp hz with y|y
   ·rcases mem_append.mp y with y|y
    ·exact o3 z y
    ·exact h2 z y
   ·exact o4 z y
 |num nm=>
  obtain⟨n,rfl,h0,h1⟩:=h;obtain⟨k,rfl⟩:=Int.eq_ofNat_of_zero_le h0;have hn:numB (dg (k:Int))=true:=Cw (by lia);have hf:=gB (i:=(k:Int)) h0;have nd:isDot (dg (k:Int))=false:=pK fun c hc z=>by have:=hf c hc;lia
  have ht:fitsM (.num nm) (dg (k:Int))=true:=by show (!isDot (dg (k:Int)) && numB (dg (k:Int)))=true;rw[hn,nd];rfl
  obtain⟨b1,b2,b3⟩:=jT ht;refine⟨dg (k:Int),rfl,ht,fun r=>?_,⟨length_pos_iff.mp b1,fun c hc=>Ce (hf c hc)⟩,by lia⟩;show Vl.int (intOf (dg (k:Int)))=_;rw[p8 b3 b1 b2,CS,CQ]
 |word n=>
  obtain⟨s,rfl,h1,h2,h3⟩:=h;have hs:=all_eq_true.mp h1;refine⟨s,by show [[]++s++[]]=[s];simp,?_,fun r=>?_,⟨length_pos_iff.mp h2,eB h1⟩,by lia⟩
  ·show (!isDot s && wordB s)=true;rw[pK fun c hc z=>by have:=hs c hc;rw[z] at this;cases this];unfold wordB;rw[h1,decide_eq_true h2,decide_eq_true h3];rfl
  ·show Vl.txt (amid [] [] s)=_;rw[gQ]
 |gap n=>
  obtain⟨s,rfl,h1,h2,h3⟩:=h;refine⟨s,by show [[]++s++[]]=[s];simp,?_,fun r=>?_,h1,by lia⟩
  ·show (!isDot s && true)=true;rw[h3];rfl
  ·show Vl.txt (amid [] [] s)=_;rw[gQ]
structure GvS (cs:List Pc)(bs:List (List Nat×Vl))(ss:List (List Nat)):Prop where
 bnd:boundM cs ss=bs
 fit:∀(i:Nat) (s:List Nat),ss[i]?=some s->∃c,cs[min i (cs.length - 1)]?=some c∧fitsM c s=true
 len:(∀c∈cs,c.isRest=false)->ss.length=cs.length
 le:cs.length≤ss.length
 sg:∀s∈ss,SgT s∧s.length≤600
 mx:ss.length≤cs.length+49
theorem GvS.cons {c:Pc}{cs:List Pc}{bs b:List (List Nat×Vl)}{s:List Nat}{ss:List (List Nat)}(h:GvS cs bs ss)(hf:fitsM c s=true)(hg:SgT s∧s.length≤600)(hb:(if c.isStep then [] else [(c.name,bvM c (s::ss))])=b):GvS (c::cs) (b++bs) (s::ss):=by
 refine⟨?_,fun i t ht=>?_,fun hr=>?_,?_,fun t ht=>?_,?_⟩
 ·show (if c.isStep then [] else [(c.name,bvM c (s::ss))])++boundM cs ss=_;rw[hb,h.bnd]
 ·cases i with
  |zero=>cases ht;exact⟨c,by rw[Nat.zero_min];rfl,hf⟩
  |succ i=>obtain⟨d,h1,h2⟩:=h.fit i t (by simpa using ht);have hp:=(List.getElem?_eq_some_iff.mp h1).1;refine⟨d,?_,h2⟩;rw[length_cons,show min (i+1) (cs.length+1 - 1)=min i (cs.length - 1)+1 by lia];exact h1
 ·rw[length_cons,length_cons,h.len fun d hd=>hr d (mem_cons_of_mem _ hd)]
 ·rw[length_cons,length_cons];have:=h.le;lia
 ·rcases mem_cons.mp ht with z|z
  ·rw[z];exact hg
  ·exact h.sg t z
 ·rw[length_cons,length_cons];have:=h.mx;lia
theorem jb {cs:List Pc}{bs:List (List Nat×Vl)}(h:GvA cs bs):(∀c∈cs,PcOk c)->LastR cs->GvS cs bs (stpsM cs bs):=by
 induction h with
 |nil=>exact fun _ _=>⟨rfl,(fun i s h=>by simp[stpsM] at h),fun _=>rfl,Nat.le_refl _,(fun s hs=>by cases hs),Nat.zero_le _⟩
 |@step w cs bs _ ih=>
  intro ok l;have ih:=ih (fun c hc=>ok c (mem_cons_of_mem _ hc)) fun i c hc hr=>by have:=l (i+1) c hc hr;rw[length_cons] at this;lia
  obtain⟨o1,o2,o3,o4⟩:=ok _ (mem_cons_self ..);exact ih.cons (c:=.step w) (b:=[]) (by show (!isDot w && decide (w=w))=true;rw[o4,decide_eq_true rfl];rfl) ⟨⟨length_pos_iff.mp o1,o3⟩,by lia⟩ rfl
 |@gap c x cs bs hst hg _ ih=>
  intro ok l;have ih:=ih (fun c hc=>ok c (mem_cons_of_mem _ hc)) fun i c hc hr=>by have:=l (i+1) c hc hr;rw[length_cons] at this;lia
  rw[d9 hst];cases hr:c.isRest with
  |false=>obtain⟨s,e,hf,hb,ad⟩:=pL (ok c (mem_cons_self ..)) hst hr hg;rw[e];exact ih.cons (b:=[(c.name,x)]) hf ad (by rw[hst,hb];rfl)
  |true=>
   have hn:cs=[]:=length_eq_zero_iff.mp (by have:=l 0 c rfl hr;rw[length_cons] at this;lia);subst hn;have dl:bs=[]:=by have:=ih.bnd;exact this.symm
   subst dl;cases c with
   |rest n=>
    obtain⟨ls,rfl,h1,h2,h3⟩:=hg;show GvS [.rest n] [(n,.lst ls)] (ls++[]);rw[append_nil];have hp:=length_pos_iff.mpr h1;refine⟨rfl,fun i s hs=>⟨.rest n,by rw[show min i ([Pc.rest n].length - 1)=0 by simp];rfl,?_⟩,fun z=>?_,by simp;lia,fun s hs=>⟨(h3 s hs).1,by have:=(h3 s hs).2.1;lia⟩,by simp;lia⟩
    ·show (!isDot s && true)=true;rw[(h3 s (mem_of_getElem? hs)).2.2];rfl
    ·have:=z (.rest n) (mem_singleton.mpr rfl);cases this
   |_=>cases hr
theorem pM {cs:List Pc}{bs:List (List Nat×Vl)}(h:GvA cs bs)(ok:∀c∈cs,PcOk c)(l:LastR cs)(e:Bool):fitsP cs e true (stpsM cs bs) e=true:=by
 have g:=jb h ok l;obtain⟨ms,hm⟩:=Cp (ds:=cs) (n:=(stpsM cs bs).length) (by
  cases hr:hasRest cs with
  |true=>exact .inl ⟨rfl,g.le⟩
  |false=>
   refine .inr (g.len fun c hc=>?_);cases hcr:c.isRest with
   |false=>rfl
   |true=>obtain⟨i,hi⟩:=List.mem_iff_getElem?.mp hc;rw[Cv l hi hcr] at hr;cases hr)
 refine Cq.mpr ⟨ms,hm,rfl,rfl,fun i c s hc hs=>?_⟩;obtain⟨d,h1,h2⟩:=g.fit i s hs;have hi:=(List.getElem?_eq_some_iff.mp hs).1;rcases (Co hm).2 i hi with⟨z1,z2⟩|⟨z1,_,d',z3,z4,_⟩
 ·rw[z2] at hc;rw[Nat.min_eq_left (by lia),hc] at h1;cases h1;exact h2
 ·rw[hc] at z3;cases z3;exact Cn z4 (Cm h2)
theorem CT {s:List Nat}{c:Nat}(hc:c∈s)(h:c≠46):isDot s=false:=gG.mpr ⟨fun e=>by
 rw[e] at hc;simp[sUp] at hc;exact h hc,fun e=>by
 rw[e] at hc;simp[sStay] at hc;exact h hc⟩
theorem GvA.whole:∀{cs:List Pc}{bs:List (List Nat×Vl)},GvA (cs.filter fun c=>!c.isStep) bs->GvA cs bs
 |[],_,h=>h
 |c::cs,bs,h=>by
  cases hs:c.isStep with
  |true=>
   rw[filter_cons,if_neg (by rw[hs];decide)] at h;cases c with
   |step w=>exact .step h.whole
   |_=>cases hs
  |false=>
   rw[filter_cons,if_pos (by rw[hs];rfl)] at h;cases h with
   |step h=>cases hs
   |gap h1 h2 h3=>exact .gap h1 h2 h3.whole
theorem GvA.names {cs:List Pc}{bs:List (List Nat×Vl)}(h:GvA cs bs):bs.map (·.1)=gapsM cs:=by
 induction h with
 |nil=>rfl
 |step _ ih=>exact ih
 |@gap c x cs bs h1 _ _ ih=>rw[map_cons,ih];unfold gapsM;rw[filter_cons,if_pos (by rw[h1];rfl)];rfl
theorem GvOk.vl {c:Pc}{x:Vl}(h:GvOk c x):VlOk x:=by
 cases c with
 |step w=>exact h.elim
 |part a n t=>obtain⟨s,rfl,_,h2,h3,_⟩:=h;exact⟨h2,by lia⟩
 |num n=>obtain⟨s,rfl,_⟩:=h;trivial
 |word n=>obtain⟨s,rfl,h1,_,h3⟩:=h;exact⟨eB h1,by lia⟩
 |gap n=>obtain⟨s,rfl,h1,h2,_⟩:=h;exact⟨h1.2,by lia⟩
 |rest n=>obtain⟨ls,rfl,_,h2,h3⟩:=h;exact⟨fun s hs=>⟨(h3 s hs).1.2,by have:=(h3 s hs).2.1;lia⟩,by lia⟩
theorem GvA.vl {cs:List Pc}{bs:List (List Nat×Vl)}(h:GvA cs bs):∀b∈bs,VlOk b.2:=by
 induction h with
 |nil=>intro b hb;cases hb
 |step _ ih=>exact ih
 |gap _ h2 _ ih=>
  intro b hb;rcases mem_cons.mp hb with z|z
  ·rw[z];exact h2.vl
  ·exact ih b z
noncomputable def SmV:Vl->Prop
 |.txt s=>s.length≤90
 |.int _=>True
 |.lst ls=>ls.length≤5∧∀s∈ls,s.length≤90
theorem CU {c:Pc}{x:Vl}(ok:PcOk c)(hs:c.isStep=false)(h:GvOk c x)(sm:SmV x):(stM c x).length≤5∧∀s∈stM c x,s.length≤400:=by
 cases c with
 |step w=>cases hs
 |rest n=>obtain⟨ls,rfl,_⟩:=h;exact⟨sm.1,fun s hs=>Nat.le_trans (sm.2 s hs) (by decide)⟩
 |num n=>obtain⟨s,e,hf,_⟩:=pL ok rfl rfl h;rw[e];exact⟨by simp,fun z hz=>by rw[mem_singleton.mp hz];have:=(jT hf).2.1;lia⟩
 |part a n t=>obtain⟨s,rfl,_⟩:=h;obtain⟨o1,o2,_⟩:=ok;have sm:s.length≤90:=sm;exact⟨by show [_].length≤5;simp,fun z hz=>by rw[mem_singleton.mp (show z∈[a++s++t] from hz)];simp only[length_append];lia⟩
 |word n=>obtain⟨s,rfl,_⟩:=h;have sm:s.length≤90:=sm;exact⟨by show [_].length≤5;simp,fun z hz=>by rw[mem_singleton.mp (show z∈[[]++s++[]] from hz)];simp;lia⟩
 |gap n=>obtain⟨s,rfl,_⟩:=h;have sm:s.length≤90:=sm;exact⟨by show [_].length≤5;simp,fun z hz=>by rw[mem_singleton.mp (show z∈[[]++s++[]] from hz)];simp;lia⟩
theorem pN {cs:List Pc}{bs:List (List Nat×Vl)}(h:GvA cs bs):(∀c∈cs,PcOk c)->(∀b∈bs,SmV b.2)->(stpsM cs bs).length≤5 * cs.length∧∀s∈stpsM cs bs,s.length≤400:=by
 induction h with
 |nil=>exact fun _ _=>⟨Nat.le_refl _,fun s hs=>by cases hs⟩
 |@step w cs bs _ ih=>
  intro ok sm;obtain⟨i1,i2⟩:=ih (fun c hc=>ok c (mem_cons_of_mem _ hc)) sm;have o:=(ok _ (mem_cons_self ..)).2.1;refine⟨by show (w::stpsM cs bs).length≤_;rw[length_cons,length_cons];lia,fun s hs=>?_⟩;rcases mem_cons.mp (show s∈w::stpsM cs bs from hs) with z|z
  ·rw[z];lia
  ·exact i2 s z
 |@gap c x cs bs hst hg _ ih=>
  intro ok sm;obtain⟨i1,i2⟩:=ih (fun c hc=>ok c (mem_cons_of_mem _ hc)) (fun b hb=>sm b (mem_cons_of_mem _ hb));obtain⟨j1,j2⟩:=CU (ok c (mem_cons_self ..)) hst hg (sm (c.name,x) (mem_cons_self ..));rw[d9 hst];refine⟨by rw[length_append,length_cons];have:(stM c (c.name,x).2).length≤5:=j1;lia,fun s hs=>?_⟩;rcases mem_append.mp hs with z|z
  ·exact j2 s z
  ·exact i2 s z
end Wm
namespace L2
open PySem
section
variable {X:Cx}
end
end L2
namespace Wm
open PySem L2
noncomputable abbrev mkS (l:List Nat):Str:=⟨l.toArray⟩
theorem CV (t:List Nat)(c i:Nat):(decide (i+(mkS [c]).length≤(mkS t).length) && Builtin.Str.subAt (mkS t) (mkS [c]) i)=decide (t[i]?=some c):=by
 by_cases hi:i≤t.length
 ·rw[jH t [c] i hi,decide_eq_decide];cases h:t.drop i with
  |nil=>have:t[i]?=none:=List.getElem?_eq_none (by have:=congrArg List.length h;rw[length_drop,length_nil] at this;lia);rw[this];simp
  |cons d r=>
   have:t[i]?=some d:=by rw[<- List.head?_drop,h];rfl
   rw[this];simp
 ·rw[List.getElem?_eq_none (by lia),aU,aU,decide_eq_false (by rw[length_singleton];lia)];rfl
theorem pO (t:List Nat)(c:Nat):Builtin.Str.occurrences (mkS t) (mkS [c]) 0 (mkS t).length 1=((List.range' 0 (t.length+1)).find? fun i=>decide (t[i]?=some c)).toList:=by rw[StrLaws.occ_eq,occ1 _ _ _ _ (fun i _=>Nat.zero_le i)];simp only[CV];rw[aU];rfl
theorem pP {t:List Nat}{c:Nat}(h:c∉t):Txt.partition (mkS t) (mkS [c])=(mkS t,⟨#[]⟩,⟨#[]⟩):=by unfold Txt.partition;rw[pO,List.find?_eq_none.mpr fun i _ z=>h (mem_of_getElem? (of_decide_eq_true z))];rfl
theorem jc {a b:List Nat}{c:Nat}(h:c∉a):Txt.partition (mkS (a++c::b)) (mkS [c])=(mkS a,mkS [c],mkS b):=by
 unfold Txt.partition;have e:(List.range' 0 ((a++c::b).length+1)).find? (fun i=>decide ((a++c::b)[i]?=some c))=some a.length:=by
  rw[List.find?_range'_eq_some];refine⟨decide_eq_true (by simp),?_,fun j _ hj=>?_⟩
  ·rw[List.mem_range'_1];simp only[length_append,length_cons];lia
  ·rw[decide_eq_false fun z=>?_]
   ·rfl
   ·rw[List.getElem?_append_left hj] at z;exact h (mem_of_getElem? z)
 rw[pO,e];show (Builtin.Str.strSub (mkS (a++c::b)) 0 a.length,mkS [c],Builtin.Str.strSub (mkS (a++c::b)) (a.length+(mkS [c]).length) (mkS (a++c::b)).length)=_;rw[aU,aU];refine Prod.ext ?_ (Prod.ext rfl ?_)
 ·show (⟨(a++c::b).toArray.extract 0 a.length⟩:Str)=_;simp
 ·show (⟨(a++c::b).toArray.extract (a.length+1) (a++c::b).length⟩:Str)=_;simp;exact take_of_length_le (by lia)
theorem pQ {K:W.Frag}{H:Hp}:∀{ss:List Str}{xs:List V},IsKAll K H (ss.map PyData.str) xs->xs=ss.map V.str
 |[],_,.nil=>rfl
 |s::ss,_,.cons h r=>by cases h;rw[pQ r];rfl
theorem pR {K:W.Frag}{H:Hp}{ss:List Str}{p:Addr}(h:IsK K H (.tuple (ss.map PyData.str)) (.ref p)):SqT K H p (ss.map V.str):=by
 cases h with
 |tup hp r=>rw[<- pQ r];exact hp
theorem jd (k:Str):∀ss:List Str,inV (.str k) (ss.map V.str)=decide (k∈ss)
 |[]=>rfl
 |s::ss=>by
  have ih:=jd k ss;have e:eqV (.str s) (.str k)=decide (k=s):=by show (s == k)=decide (k=s);rw[Bool.eq_iff_iff,beq_iff_eq,decide_eq_true_eq];exact⟨Eq.symm,Eq.symm⟩
  unfold inV at ih ⊢;rw[map_cons,any_cons,ih,e,Bool.eq_iff_iff,Bool.or_eq_true,decide_eq_true_eq,decide_eq_true_eq,decide_eq_true_eq,mem_cons]
theorem pS (sep:Nat):∀ys:List (List Nat),Str.join (mkS [sep]) (ys.map mkS)=mkS (joinT sep ys)
 |[]=>by rw[map_nil,Str.join.eq_1];rfl
 |[x]=>by rw[map_cons,map_nil,Str.join.eq_2];simp[joinT,tlT]
 |x::y::r=>by rw[map_cons,Str.join.eq_3 _ _ _ (by simp),pS sep (y::r),b7,b7];simp[joinT,tlT]
theorem gT (z:Str):mkS z.cps.toList=z:=by cases z;simp
theorem CW {c:Nat}{ts:List (List Nat)}(hf:Free c ts)(h:ts≠[]):Txt.split (mkS (joinT c ts)) ⟨#[c]⟩=ts.map mkS:=by
 obtain⟨qs,hq⟩:∃qs:List (List Nat),qs=(Txt.split (mkS (joinT c ts)) ⟨#[c]⟩).map (fun z=>z.cps.toList):=⟨_,rfl⟩;have e:Txt.split (mkS (joinT c ts)) ⟨#[c]⟩=qs.map mkS:=by
  rw[hq,map_map]
  conv=>lhs;rw[<- map_id (Txt.split (mkS (joinT c ts)) ⟨#[c]⟩)]
  exact List.map_congr_left fun z _=>(gT z).symm
 have hj:=StrLaws.join_split (mkS (joinT c ts)) ⟨#[c]⟩;rw[e] at hj;have ad:joinT c qs=joinT c ts:=ar.mp ((pS c qs).symm.trans hj);have dl:Free c qs:=fun s hs d hd=>by rw[hq] at hs;obtain⟨z,hz,rfl⟩:=mem_map.mp hs;exact fun y=>StrLaws.split_free _ c z hz (by rw[<- y];exact hd)
 have hn:qs≠[]:=fun z=>by
  have hl:=PyProof.Rows.len_of_split (l:=(Txt.split (mkS (joinT c ts)) ⟨#[c]⟩).map fun z=>(z,0)) (x:=mkS (joinT c ts)) (y:=⟨#[c]⟩) (by
   rw[map_map]
   conv=>rhs;rw[<- map_id (Txt.split (mkS (joinT c ts)) ⟨#[c]⟩)]
   rfl)
  rw[length_map,e,z] at hl;exact absurd hl (by decide)
 rw[e,zj dl hf hn h ad]
noncomputable def NmOk (n:List Nat):Prop:=(1≤n.length∧n.length≤8)∧n.all isSma=true
inductive PcW:Pc->List Nat->Prop
 |step {s w:List Nat}:WrT frS s w->s≠[]->PcW (.step s) w
 |part {h n t a b:List Nat}:WrT frS h a->WrT frS t b->h++t≠[]->NmOk n->PcW (.part h n t) (a++123::(n++125::b))
 |gap {n:List Nat}:NmOk n->PcW (.gap n) (123::(n++[125]))
 |num {n:List Nat}:NmOk n->PcW (.num n) (123::(n++58::([110,117,109,98,101,114]++[125])))
 |word {n:List Nat}:NmOk n->PcW (.word n) (123::(n++58::([119,111,114,100]++[125])))
 |rest {n:List Nat}:NmOk n->PcW (.rest n) (123::(n++58::([114,101,115,116]++[125])))
theorem je {n:List Nat}(h:n.all isSma=true):∀c∈n,97≤c∧c≤122:=fun c hc=>by have:=all_eq_true.mp h c hc;unfold isSma at this;simpa using this
theorem eD {s w:List Nat}(h:WrT frS s w):∀c∈w,c≠47∧c≠123∧c≠125:=by
 have ad:∀c,(isPl c=true∨c∈frS)->c≠47∧c≠123∧c≠125:=fun c hc=>by
  rcases hc with hc|hc
  ·refine⟨fun z=>?_,fun z=>?_,fun z=>?_⟩ <;> (rw[z] at hc;exact absurd hc (by decide +kernel))
  ·refine⟨fun z=>?_,fun z=>?_,fun z=>?_⟩ <;> (rw[z] at hc;exact absurd hc (by decide +kernel))
 induction h with
 |nil=>intro c hc;cases hc
 |self h1 h2 _ ih=>
  intro c hc;rcases mem_cons.mp hc with rfl|hc
  ·exact ad c h1
  ·exact ih c hc
 |pair h1 _ ih=>
  intro c hc;obtain⟨f1,f2,f3,_⟩:=jI h1;simp only[mem_cons] at hc;have fg:∀{a b d:Nat},sgO a b=some d->(a≠47∧a≠123∧a≠125)∧(b≠47∧b≠123∧b≠125):=fun {a b d} h=>by refine⟨⟨fun z=>?_,fun z=>?_,fun z=>?_⟩,⟨fun z=>?_,fun z=>?_,fun z=>?_⟩⟩ <;> (subst z;unfold sgO at h;simp[fig] at h)
  obtain⟨g1,g2⟩:=fg h1;rcases hc with rfl|rfl|rfl|hc
  ·decide
  ·exact g1
  ·exact g2
  ·exact ih c hc
noncomputable def kwN:List Str:=[Str.ofString "number",Str.ofString "word",Str.ofString "gap",Str.ofString "rest"]
noncomputable def restsL (cs:List Pc):Bool:=cs.dropLast.all fun c=>!c.isRest
theorem gU {n:Nat}{ds:List PyData}:tupN (n:Int) (.tuple ds)=true↔ds.length=n:=by show decide ((ds.length:Int)=(n:Int))=true↔_;rw[decide_eq_true_iff];lia
theorem pT (xs:List V):cutV xs none (some (-1))=xs.dropLast:=Ag xs
theorem pU {H:Hp}:∀{l:List (List Nat)}{xs:List V},IsAll H (l.map st) xs->xs=l.map tV
 |[],_,.nil=>rfl
 |a::l,_,.cons h r=>by cases h;rw[pU r];rfl
theorem jf {H:Hp}{c:Pc}{x:V}(h:Is H (pcD c) x):∃p,x=.ref p∧H p=some (.tup c.vals):=by
 have ad:∀(k:Str) (l:List (List Nat)),Is H (.tuple (.str k::l.map st)) x->∃p,x=.ref p∧H p=some (.tup (.str k::l.map tV)):=fun k l h=>by
  cases h with
  |tup hp r=>
   cases r with
   |cons h1 r=>cases h1;have e:=pU r;subst e;exact⟨_,rfl,hp⟩
 cases c with
 |step s=>exact ad _ [s] h
 |part a n t=>exact ad _ [a,n,t] h
 |num n=>exact ad _ [n] h
 |word n=>exact ad _ [n] h
 |gap n=>exact ad _ [n] h
 |rest n=>exact ad _ [n] h
theorem CY {l:List (List Nat)}:(l.map mkS).Nodup↔l.Nodup:=by
 constructor
 ·intro h;rw[List.nodup_iff_pairwise_ne] at h ⊢;rw[List.pairwise_map] at h;exact h.imp fun a b=>a (congrArg mkS b)
 ·intro h;rw[List.nodup_iff_pairwise_ne] at h ⊢;rw[List.pairwise_map];exact h.imp fun a b=>a (ar.mp b)
inductive PcWs:List Pc->List (List Nat)->Prop
 |nil:PcWs [] []
 |cons {c:Pc}{w:List Nat}{cs:List Pc}{ws:List (List Nat)}:PcW c w->PcWs cs ws->PcWs (c::cs) (w::ws)
theorem PcWs.length {cs:List Pc}{ws:List (List Nat)}(h:PcWs cs ws):ws.length=cs.length:=by
 induction h with
 |nil=>rfl
 |cons _ _ ih=>rw[length_cons,length_cons,ih]
theorem PcWs.snoc {c:Pc}{w:List Nat}(h:PcW c w):∀{cs:List Pc}{ws:List (List Nat)},PcWs cs ws->PcWs (cs++[c]) (ws++[w])
 |_,_,.nil=>.cons h .nil
 |_,_,.cons a r=>.cons a (PcWs.snoc h r)
theorem PcWs.get {cs:List Pc}{ws:List (List Nat)}(h:PcWs cs ws):∀{i:Nat}{w:List Nat},ws[i]?=some w->∃c,cs[i]?=some c∧PcW c w:=by
 induction h with
 |nil=>intro i w h;simp at h
 |cons a r ih=>
  intro i w hw;cases i with
  |zero=>cases hw;exact⟨_,rfl,a⟩
  |succ i=>exact ih (by simpa using hw)
theorem jg {s w:List Nat}(h:WrT frS s w):und frS w=some s:=by
 induction h with
 |nil=>exact mi _
 |self h1 h2 _ ih=>rw[ml h2 (by rcases h1 with h|h;rw[h];rfl;rw[decide_eq_true h,Bool.or_true]),ih];rfl
 |pair h1 _ ih=>rw[mj h1,ih];rfl
theorem jh {s w:List Nat}(h:WrT frS s w):∀c∈w,c < 128:=B6 (by decide +kernel) h
theorem pV {c:Pc}{w:List Nat}(h:PcW c w):w≠[]∧∀x∈w,x≠47:=by
 have nm:∀{n:List Nat},NmOk n->∀x∈n,x≠47:=fun {n} hn x hx=>by have:=je hn.2 x hx;lia
 cases h with
 |@step s w h hs=>refine⟨fun z=>?_,fun x hx=>(eD h x hx).1⟩;have:=gL h;rw[z,length_nil] at this;exact hs (length_eq_zero_iff.mp (by lia))
 |part h1 h2 h3 h4=>
  refine⟨by simp,fun x hx=>?_⟩;simp only[mem_append,mem_cons] at hx;rcases hx with hx|rfl|hx|rfl|hx
  ·exact (eD h1 x hx).1
  ·decide
  ·exact nm h4 x hx
  ·decide
  ·exact (eD h2 x hx).1
 |gap h1=>
  refine⟨by simp,fun x hx=>?_⟩;simp only[mem_append,mem_cons,not_mem_nil,or_false] at hx;rcases hx with rfl|hx|rfl
  ·decide
  ·exact nm h1 x hx
  ·decide
 |num h1=>
  refine⟨by simp,fun x hx=>?_⟩;simp only[mem_append,mem_cons,not_mem_nil,or_false] at hx;rcases hx with rfl|hx|hx
  ·decide
  ·exact nm h1 x hx
  ·lia
 |word h1=>
  refine⟨by simp,fun x hx=>?_⟩;simp only[mem_append,mem_cons,not_mem_nil,or_false] at hx;rcases hx with rfl|hx|hx
  ·decide
  ·exact nm h1 x hx
  ·lia
 |rest h1=>
  refine⟨by simp,fun x hx=>?_⟩;simp only[mem_append,mem_cons,not_mem_nil,or_false] at hx;rcases hx with rfl|hx|hx
  ·decide
  ·exact nm h1 x hx
  ·lia
theorem CZ {cs:List Pc}{ws:List (List Nat)}{e:Bool}(h:PcWs cs ws)(h0:cs=[]->e=true):slT true ws e=47::joinT 47 (ws++if e then [[]] else [])∧Free 47 (ws++if e then [[]] else [])∧(ws++if e then [[]] else [])≠[]:=by
 have hl:=h.length;refine⟨?_,fun s hs c hc=>?_,?_⟩
 ·unfold slT;cases ws with
  |nil=>rw[length_nil] at hl;rw[h0 (length_eq_zero_iff.mp hl.symm)];rfl
  |cons w ws=>
   cases e with
   |false=>simp
   |true=>have e:=zk 47 [] (show w::ws≠[] by simp);simp;rw[show w::(ws++[[]])=(w::ws)++[[]] from rfl,e]
 ·rcases mem_append.mp hs with z|z
  ·obtain⟨i,hi,ei⟩:=getElem_of_mem z;obtain⟨d,_,hd⟩:=h.get (List.getElem?_eq_some_iff.mpr ⟨hi,ei⟩);exact (pV hd).2 c hc
  ·cases e with
   |false=>cases z
   |true=>rw[mem_singleton.mp z] at hc;cases hc
 ·cases ws with
  |nil=>rw[length_nil] at hl;rw[h0 (length_eq_zero_iff.mp hl.symm)];simp
  |cons w ws=>simp
noncomputable def kwW:List Str:=[Str.ofString "number",Str.ofString "word",Str.ofString "rest"]
theorem ji {t:List Nat}(h:t.length≤100000):smallD (st t)=true:=by show decide ((mkS t).length≤100000)=true;rw[aU];exact decide_eq_true h
theorem D0 (sep n:Nat):∀{ws:List (List Nat)},(∀w∈ws,w.length≤n)->(joinT sep ws).length≤ws.length * (n+1)∧(ws.map (·.length)).sum≤ws.length * n
 |[],_=>⟨by simp[joinT],by simp⟩
 |w::ws,h=>by
  have tl:∀{ws:List (List Nat)},(∀w∈ws,w.length≤n)->(tlT sep ws).length≤ws.length * (n+1)∧(ws.map (·.length)).sum≤ws.length * n:=fun {ws}=>by
   induction ws with
   |nil=>exact fun _=>⟨by simp[tlT],by simp⟩
   |cons a r ih=>intro h;obtain⟨i1,i2⟩:=ih fun w hw=>h w (mem_cons_of_mem _ hw);have:=h a (mem_cons_self ..);simp only[tlT,length_cons,length_append,map_cons,sum_cons,Nat.add_mul,Nat.one_mul];exact⟨by lia,by lia⟩
  obtain⟨i1,i2⟩:=tl fun w hw=>h w (mem_cons_of_mem _ hw);have:=h w (mem_cons_self ..);simp only[joinT,length_cons,length_append,map_cons,sum_cons,Nat.add_mul,Nat.one_mul];exact⟨by lia,by lia⟩
theorem jj {H:Hp}:∀{ds:List PyData}{xs:List V},IsTAll H ds xs->xs.length=ds.length∧∀(i:Nat) (x:V),xs[i]?=some x->∃d,ds[i]?=some d∧IsT H d x
 |_,_,.nil=>⟨rfl,fun i x h=>by simp at h⟩
 |_,_,.cons q t=>by
  obtain⟨h1,h2⟩:=jj t;refine⟨by rw[length_cons,length_cons,h1],fun i x h=>?_⟩;cases i with
  |zero=>simp at h;subst h;exact⟨_,rfl,q⟩
  |succ i=>obtain⟨d,e1,e2⟩:=h2 i x (by simpa using h);exact⟨d,by simpa using e1,e2⟩
theorem jk {K:W.Frag}{H:Hp}:∀{cs:List Pc}{xs:List V},IsTAll H (cs.map pcD) xs->PcAll K H cs xs
 |[],_,.nil=>.nil
 |c::cs,_,.cons h t=>by obtain⟨p,rfl,hp⟩:=jf h.is;exact .cons (.of hp) (jk t)
noncomputable def PtG (cs:List Pc)(e:Bool):Prop:=PatOk cs∧(∀c∈cs,c.isStep=false->NmOk c.name)∧(gapsM cs).Nodup∧cs.length≤12∧(cs=[]->e=true)
noncomputable abbrev ptD (cs:List Pc)(e:Bool):PyData:=.tuple [.tuple (cs.map pcD),.bool e]
theorem D1 {cs:List Pc}(h:PatOk cs):restsL cs=true:=all_eq_true.mpr fun c hc=>by
 obtain⟨i,hi,ei⟩:=getElem_of_mem hc;rw[length_dropLast] at hi;rw[List.getElem_dropLast] at ei;cases er:c.isRest with
 |false=>rfl
 |true=>have:=h.2 i c (List.getElem?_eq_some_iff.mpr ⟨by lia,ei⟩) er;lia
theorem D2 (c:Pc):(∃s,c=.step s)∨(∃h n t,c=.part h n t)∨c.isStep=false∧c.isPart=false∧c.tl=[tV c.name]∧c.kw∈kwN:=by
 cases c with
 |step s=>exact .inl ⟨s,rfl⟩
 |part h n t=>exact .inr (.inl ⟨h,n,t,rfl⟩)
 |_ n=>exact .inr (.inr ⟨rfl,rfl,rfl,by unfold kwN;simp[Pc.kw]⟩)
inductive GpW:Pc->List Nat->List Nat->List Nat->Prop
 |part {h n t a b:List Nat}:WrT frS h a->WrT frS t b->h++t≠[]->GpW (.part h n t) a n b
 |gap {n:List Nat}:58∉n->GpW (.gap n) [] n []
 |kw {c:Pc}{n k:List Nat}:58∉n->c.kw=mkS k->c.kw∈kwW->pcD c=.tuple [.str c.kw,st n]->GpW c [] (n++58::k) []
theorem D3 {c:Pc}{w:List Nat}(h:PcW c w):(∃s,c=.step s∧WrT frS s w)∨∃a i b,w=a++123::(i++125::b)∧123∉a∧125∉i∧GpW c a i b:=by
 have nm:∀{n:List Nat},NmOk n->125∉n∧58∉n:=fun {n} hn=>⟨fun z=>by have:=je hn.2 _ z;lia,fun z=>by have:=je hn.2 _ z;lia⟩;have kw:∀(c:Pc) (k n:List Nat),NmOk n->125∉k->c.kw=mkS k->c.kw∈kwW->pcD c=.tuple [.str c.kw,st n]->∃a i b,123::(n++58::(k++[125]))=a++123::(i++125::b)∧123∉a∧125∉i∧GpW c a i b:=fun c k n hn hk e1 e2 e3=>
  ⟨[],n++58::k,[],by simp,by simp,by simp;exact⟨(nm hn).1,hk⟩,.kw (nm hn).2 e1 e2 e3⟩
 cases h with
 |step h1 h2=>exact .inl ⟨_,rfl,h1⟩
 |part h1 h2 h3 h4=>exact .inr ⟨_,_,_,rfl,fun z=>(eD h1 _ z).2.1 rfl,(nm h4).1,.part h1 h2 h3⟩
 |@gap n h1=>exact .inr ⟨[],n,[],rfl,by simp,(nm h1).1,.gap (nm h1).2⟩
 |num h1=>exact .inr (kw _ _ _ h1 (by decide) (show Str.ofString "number"=_ by decide +kernel) (by unfold kwW;simp[Pc.kw]) rfl)
 |word h1=>exact .inr (kw _ _ _ h1 (by decide) (show Str.ofString "word"=_ by decide +kernel) (by unfold kwW;simp[Pc.kw]) rfl)
 |rest h1=>exact .inr (kw _ _ _ h1 (by decide) (show Str.ofString "rest"=_ by decide +kernel) (by unfold kwW;simp[Pc.kw]) rfl)
end Wm
namespace L2
open PySem Wm
theorem D4 {K:W.Frag}{p a:Addr}{fv:St}{te:TE}{Q:VK}{H1:Hp}{xs:List V}{α:Type}{g:α->PyData}{l:List α}(hxs:SqL K H1 a xs)(hlen:xs.length≤sizeLine)(hp:H1 p=none)(hl:l.length=xs.length)
  (he:∀(i:Nat) (x:V) (c:α),xs[i]?=some x->l[i]?=some c->∀(H':Hp) (T:VK),Same H1 H'->(∀y H'',Same H' H''->IsT H'' (g c) y->T y H'')->te (some x::fv) H' T)
  (hQ:∀ys H',Same H1 H'->IsTAll H' (l.map g) ys->H' p=some (.lst ys)->Q (.ref p) H'):CompI (Itl K a) p fv tYes te Q H1:=by
 refine⟨fun i m ys H2=>m=xs.length - i∧i≤xs.length∧IsTAll H2 ((l.take i).map g) ys∧H2 p=some (.lst ys)∧Same H1 H2,⟨xs.length,by simp,Nat.zero_le _,by rw[take_zero];exact .nil,aL,av hp⟩,?_⟩;rintro i m ys H2 ⟨rfl,hi,ad,dl,sm⟩;refine⟨dl,?_⟩;have q:=sm.seq hxs;have mt:=ad.length;rw[length_map,length_take] at mt;by_cases ld:i < xs.length
 ·refine .inr ⟨⟨xs,xs[i],q,by simp[ld]⟩,by lia,fun x H3 y=>?_⟩;obtain⟨rfl,y⟩:=y;have hc:=y xs q;have hd:l[i]?=some (l[i]'(hl▸ld)):=List.getElem?_eq_getElem _;unfold tYes;dsimp only;rw[if_pos rfl];refine he i x _ hc hd _ _ sm fun y H5 s5 hr=>⟨s5 _ _ dl,xs.length - (i+1),by lia,rfl,ld,?_,aL,cx hp (sm.trans s5)⟩;rw[take_add_one,hd,map_append];exact ((ad.mono s5.toT).snoc hr).mono (ft (s5 _ _ dl))
 ·have e:i=xs.length:=by lia
  subst e;rw[<- hl,take_length] at ad;exact .inl ⟨⟨xs,q,Nat.le_refl _⟩,hQ ys H2 sm ad dl⟩
theorem D5 {c A X R:Prop}[Decidable c](hA:A->X)(h1:c->A)(h2:¬ c->(A->X)->R):if c then X else R:=ite2 (fun z=>hA (h1 z)) (fun z=>h2 z hA)
end L2
namespace L2
open PySem PySem.Spec PyProof.Rows
structure Fd (K:W.Frag)(mg:Str->Option Value)(x:Str)(s:Stmt)(ps:List Str) where
 a:Addr
 fd:FuncData
 F:Fun K x x s a fd
 m:mg x=some (.ref a)
 b:Binds K fd ps []
noncomputable def D6 {K:W.Frag}{h:Heap}{mg:Str->Option Value}{x:Str}{s:Stmt}{ps:List Str}{f:Addr}{oc:Value}{od an:Option Addr}{osl:Array (Option Value)}{kV doc pm cdv ct:Value}(X:K.In h)(Gl:h.Ns mainGlobals mg)
  (a:PySem.W.nsIn K mainGlobals x=some (some (.ref f))) (l:K.lookup f=some ⟨oc,od,.func (PySem.W.fnOf x x (defArgs s) (defBody s) (defScope s) .none kV doc pm an cdv ct),osl⟩) (c:PySem.W.codeIn K cdv x=true) (k:PySem.W.keepIn K (.ref f)=true)
  (hb:∀(kV doc pm:Value) (an:Option Addr) (cdv ct:Value) (us:List Value),us.length=ps.length->bindArgs (PySem.W.fnOf x x (defArgs s) (defBody s) (defScope s) .none kV doc pm an cdv ct) ⟨us,[]⟩=pure (ps.zip us)):Fd K mg x s ps:=
 ⟨f,_,cW l c k,PySem.W.mg_of X Gl a,(cW l c k).binds hb⟩
noncomputable abbrev Fd.Ok {K:W.Frag}{mg:Str->Option Value}{x:Str}{s:Stmt}{ps:List Str}(f:Fd K mg x s ps)(P:Program)(w:World)(base:Heap)(k:Nat)(sp:Sp):Prop:=FnOk P w K mg base CX0 k f.a f.fd ps sp
theorem aF {X:Cx}{k k':Nat}{sp:Sp}{x:Str}{st:Stmt}{ps:List Str}{e:Expr}{es:List Expr}{t:TA}{p pos:Pos}(f:Fd X.K X.mg x st ps)(F:FnOk X.prog X.w X.K X.mg X.base CX0 k f.a f.fd ps sp)(hr:Room k' X.A)(hg:Gl X x)
  (ha:PA X (e::es) t) (hk:k≤k':=by decide) (hdb:(x == ("__debug__" : Str))=false:=by decide) (he:starEach (e::es) X.env=(false,eval e X.env)::starEach es X.env:=by rfl) (hpl:(backTo pos (starEach es X.env)).any (·.1)=false:=by rfl) :
  PE X (.Call (.Name x p) (e::es) [] pos) (tCall sp [] E0 t):=bI F (hr.mono hk) hg f.m f.F.kp f.b .nil pass0 ha hdb he hpl
section
variable {X:Cx}{a b e:Expr}{ta tb te:TE}{pos pos':Pos}
theorem px (K:W.Frag)(ha:PE X a ta)(hb:PE X b tb)(h:X.K=K:=by rfl)(hs:PlainIx b:=by exact fun _ _=>rfl):PE X (.Subscript a b pos) (tOp (rIx K) ta tb):=vP (xZ h) ha hb hs
theorem sx {x:Str}(i:Nat)(hN:X.N.Nodup)(he:PE X e te)(hi:X.N[i]?=some x:=by rfl)(hx:Loc X.env.scope x:=by exact .inl rfl)(hs:swapsWith e (some (.Name x pos')) pos.line X.env=pure false:=by rfl)(hf:X.fn x=true∨X.env.scope.names.lookup x=some .local:=by first|exact .inl rfl|exact .inr rfl) :
  PS X (.Assign [.Name x pos'] e pos) (tAsg te (gName i)):=uR hN hi hx he hs hf
theorem pcm {op:CmpOp}{r:R2}(ho:OpR X (compareOp op) r)(ha:PE X a ta)(hb:PE X b tb)(hm:behindInMarks op b=false:=by exact nomark _):PE X (.Compare a [op] [b] pos) (tOp r ta tb):=fb ho ha hb hm
theorem ptm {op:CmpOp}{r:R2}(ho:OpR X (compareOp op) r)(ha:PE X a ta)(hb:PE X b tb)(hm:behindInMarks op b=false:=by exact nomark _):PT X (.Compare a [op] [b] pos) (tTest (tOp r ta tb)):=bv ho ha hb hm
theorem pgn {x:Str}(i:Nat)(hN:X.N.Nodup)(hi:X.N[i]?=some x:=by rfl)(hx:Loc X.env.scope x:=by exact .inl rfl)(hf:X.fn x=true∨X.env.scope.names.lookup x=some .local:=by first|exact .inl rfl|exact .inr rfl):PG X (.Name x pos) (gName i):=fY hN hi hx hf
end
section
variable {X:Cx}{elt iter:Expr}{ifs:List Expr}{scope:Scope}{cl:List (Str×Addr)}{x x2 y:Str}{px px2 ptx py pos spos:Pos}{kx:Nat}{wi:TI}{tt:TT}{te:TE}
theorem cmp1 (fx:List Str)(fr:List Nat)(hi:PI X (.Name x px) iter wi)(ht:∀{s H fp},PF (compCx X (x::fx) scope cl s H fp) ifs tt)(he:∀{s H fp},PE (compCx X (x::fx) scope cl s H fp) elt te)
  (hc:X.calm=true:=by rfl) (hclos:closureFor scope X.env=pure cl:=by rfl) (hcell:∀y∈scope.names,y.2≠.cell:=by decide +kernel) (hkind:scope.kind=.function:=by rfl)
  (hnames:∀y∈scope.names,y.2=.local->scope.names.lookup y.1=some .local:=by decide +kernel) (hx:scope.names.lookup x=some .local:=by rfl) (hnd:(x::fx).Nodup:=by decide +kernel)
  (hk:(cl.all fun q=>fx.contains q.1)=true:=by rfl) (F:Frees X (relabel scope X.env) cl fx fr:=by repeat' first|exact .nil|refine .cons rfl rfl rfl rfl ?_)
  (hfx:((relabel scope X.env).names.all fun p=>if (p.2 == .cell || p.2 == .free) then fx.contains p.1 else true)=true:=by rfl)
  (hs:∀x,foldedSetIterable iter X.env x=pure x:=by intro _;rfl) :
  PE X (.ListComp elt [⟨.Name x px,iter,ifs,0⟩] scope pos) (tComp wi fr tt te):=xS hc hclos hcell hkind hnames hx hnd hk F hfx hi (fun _ _ _=>ht) (fun _ _ _=>he) hs
theorem cmpS (fx:List Str)(fr:List Nat)(i:Nat)(hN:X.N.Nodup)(hi:PI X (.Name x px) iter wi)(ht:∀{s H fp},PF (compCx X (x::fx) scope cl s H fp) ifs tt)(he:∀{s H fp},PE (compCx X (x::fx) scope cl s H fp) elt te)
  (hiN:X.N[i]?=some y:=by rfl) (hy:X.env.scope.names.lookup y=some .local:=by rfl)
  (hc:X.calm=true:=by rfl) (hclos:closureFor scope X.env=pure cl:=by rfl) (hcell:∀y∈scope.names,y.2≠.cell:=by decide +kernel) (hkind:scope.kind=.function:=by rfl)
  (hnames:∀y∈scope.names,y.2=.local->scope.names.lookup y.1=some .local:=by decide +kernel) (hx:scope.names.lookup x=some .local:=by rfl) (hnd:(x::fx).Nodup:=by decide +kernel)
  (hk:(cl.all fun q=>fx.contains q.1)=true:=by rfl) (F:Frees X (relabel scope X.env) cl fx fr:=by repeat' first|exact .nil|refine .cons rfl rfl rfl rfl ?_)
  (hfx:((relabel scope X.env).names.all fun p=>if (p.2 == .cell || p.2 == .free) then fx.contains p.1 else true)=true:=by rfl)
  (hs:∀x,foldedSetIterable iter X.env x=pure x:=by intro _;rfl) (hsw:swapsWith (.ListComp elt [⟨.Name x px,iter,ifs,0⟩] scope pos) (some (.Name y py)) spos.line X.env=pure true:=by rfl) :
  PS X (.Assign [.Name y py] (.ListComp elt [⟨.Name x px,iter,ifs,0⟩] scope pos) spos) (tAsg (tComp wi fr tt te) (gName i)):=xT hN hiN hy hc hclos hcell hkind hnames hx hnd hk F hfx hi (fun _ _ _=>ht) (fun _ _ _=>he) hs hsw
end
theorem cutI {A B:(St->Hp->Prop)->Prop}(P:St->Hp->Prop)(h1:A P)(h2:B P):∃P,A P∧B P:=⟨P,h1,h2⟩
section
variable {K:W.Frag}{H:Hp}{a:Addr}{xs:List V}{v:V}{R:V->Prop}
end
end L2
namespace Wm
open PySem L2
theorem BndV.get {H:Hp}{l:Addr}{bs:List (List Nat×Vl)}{ys:List V}(hh:BndV H l bs ys){i:Nat}{v:V}(e:ys[i]?=some v):∃(b:List Nat×Vl) (p:Addr) (w:V),bs[i]?=some b∧v=.ref p∧H p=some (.tup [tV b.1,w])∧VlV H b.2 w∧∀q,w=.ref q->q≠l:=by
 induction hh generalizing i with
 |nil=>cases e
 |cons a b c _ ih=>
  cases i with
  |zero=>cases e;exact⟨_,_,_,rfl,rfl,a,b,c⟩
  |succ i=>exact ih e
noncomputable def FrB (H0 H:Hp)(ys:List V):Prop:=∀v∈ys,∃(p:Addr) (a w:V),v=.ref p∧H p=some (.tup [a,w])∧∀q,w=.ref q->H0 q=none
theorem FrB.mono {H0 H H':Hp}{ys:List V}(s:SameT H H')(h:FrB H0 H ys):FrB H0 H' ys:=fun v hv=>by obtain⟨p,a,w,e,h1,h2⟩:=h v hv;exact⟨p,a,w,e,s _ _ h1,h2⟩
theorem FrB.snoc {H0 H:Hp}{ys:List V}{p:Addr}{a w:V}(h:FrB H0 H ys)(hp:H p=some (.tup [a,w]))(hw:∀q,w=.ref q->H0 q=none):FrB H0 H (ys++[.ref p]):=fun v hv=>by
 rcases mem_append.mp hv with z|z
 ·exact h v z
 ·exact⟨p,a,w,mem_singleton.mp z,hp,hw⟩
noncomputable def fitR (r e:Bool)(ss:List (List Nat))(t:Rw):Bool:=fitsP t.2.1 t.2.2 r ss e
theorem pW {cs:List Pc}{bs:List (List Nat×Vl)}{ws:List (List Nat×PyData)}(h:GvA cs bs)(ok:∀c∈cs,PcOk c)(l:LastR cs)(hn:∀b∈bs,named ws b.1=[vlD b.2]):fillF cs ws=.ok (stpsM cs bs):=by have hf:=pM h ok l true;have g:=jb h ok l;obtain⟨_,_,h3,_,h5⟩:=Cd hf;exact pC (fun i c hc=>oi hf hc) l h3 (fun s hs=>⟨(g.sg s hs).1,h5 s hs⟩) (fun n x hx=>by rw[g.bnd] at hx;exact hn _ hx)
theorem D7 {l:List V}(h:l.length≤5):pickV l none none (some (-1))=l.reverse:=by
 have e:∀n:Nat,n≤5->sliceRange (sliceBounds none none (some (-1)) n).1 (sliceBounds none none (some (-1)) n).2.1 (sliceBounds none none (some (-1)) n).2.2=(List.range n).reverse:=fun n hn=>by
  have:n=0∨n=1∨n=2∨n=3∨n=4∨n=5:=by lia
  rcases this with rfl|rfl|rfl|rfl|rfl|rfl <;> decide +kernel
 unfold pickV;rw[e _ h];match l,h with
 |[],_=>rfl
 |[_],_=>rfl
 |[_,_],_=>rfl
 |[_,_,_],_=>rfl
 |[_,_,_,_],_=>rfl
 |[_,_,_,_,_],_=>rfl
theorem pX {bs:List (List Nat×Vl)}:(bs.map fun b=>(b.1,vlD b.2)).map (·.1)=bs.map (·.1):=by rw[map_map];rfl
theorem D8 {cs:List Pc}{bs:List (List Nat×Vl)}(h:GvA cs bs)(ok:∀c∈cs,PcOk c)(l:LastR cs)(hn:(gapsM cs).Nodup):fillM cs (bs.reverse.map fun b=>(b.1,vlD b.2))=.ok (stpsM cs bs):=by
 have hN:(bs.reverse.map (·.1)).Nodup:=(((List.reverse_perm bs).map (·.1)).nodup_iff).mpr (by rw[h.names];exact hn);have e:=pW (ws:=bs.reverse.map fun b=>(b.1,vlD b.2)) h ok l (fun b hb=>jW (by rw[pX];exact hN) (mem_map.mpr ⟨b,mem_reverse.mpr hb,rfl⟩));unfold fillM;rw[e,oz (fun w hw=>by obtain⟨b,hb,rfl⟩:=mem_map.mp hw;rw[<- h.names];exact mem_map_of_mem (mem_reverse.mp hb))]
theorem VlsV.rev {H:Hp}{vs:List (List Nat×PyData)}{xs:List V}(hh:VlsV H vs xs):VlsV H vs.reverse xs.reverse:=by
 induction hh with
 |nil=>exact .nil
 |cons h a r ih=>rw[List.reverse_cons,List.reverse_cons];exact (VlsV.cons h a .nil).append ih
noncomputable def wrsL (ss:List (List Nat)):Nat:=(ss.map fun s=>(wr s).length+1).sum
theorem pY {n:Nat}:∀{ss:List (List Nat)},(∀s∈ss,s.length≤400)->ss.length≤n->wrsL ss≤1201 * n
 |[],_,_=>Nat.zero_le _
 |s::ss,h,hn=>by
  cases n with
  |zero=>simp at hn
  |succ n=>have h1:=h s (mem_cons_self ..);have h2:=bV s;have h3:=pY (n:=n) (fun s hs=>h s (mem_cons_of_mem _ hs)) (by simpa using hn);show (wr s).length+1+wrsL ss≤_;lia
theorem D9 (ss:List (List Nat)):(tlT 47 (ss.map wr)).length=wrsL ss:=by
 induction ss with
 |nil=>rfl
 |cons s ss ih=>show (47::(wr s++tlT 47 (ss.map wr))).length=(wr s).length+1+wrsL ss;rw[length_cons,length_append,ih];lia
theorem Da (ss:List (List Nat)):(joinT 47 (ss.map wr)).length≤wrsL ss:=by
 cases ss with
 |nil=>exact Nat.zero_le _
 |cons s ss=>show (wr s++tlT 47 (ss.map wr)).length≤(wr s).length+1+wrsL ss;rw[length_append,D9];lia
theorem Db {x:Ad}(h:x.Wf)(hq:∀ps,x.quest=some ps->ps.length≤3∧∀p∈ps,p.1.length≤5∧∀v,p.2=some v->v.length≤6)(hm:∀l,x.mark=some l->l.length≤7)(hs:∀s∈x.steps,s.length≤400)(hn:x.steps.length≤25):x.Sz:=by
 have a1:(schT x.scheme).length≤9:=by
  unfold schT;split
  ·simp
  ·have:=h.sch.1;simp only[length_append,length_cons,length_nil];lia
 have a2:(houT x.house).length≤182:=by
  cases hh:x.house with
  |none=>simp[houT]
  |some l=>have:=(h.hou l hh).1.2;have:=bV l;simp only[houT,length_cons];lia
 have a3:(dooT x.door).length≤6:=by
  cases hh:x.door with
  |none=>simp[dooT]
  |some i=>have b:=(h.doo i hh).1;have:=nA b.1 b.2;simp only[dooT,length_cons];lia
 have a4:x.wayT.length≤wrsL x.steps+2:=by
  have hj:=Da x.steps;have e1:(if x.rooted then [47] else []:List Nat).length≤1:=by split <;> simp
  have e2:(if x.ends && !x.steps.isEmpty then [47] else []:List Nat).length≤1:=by split <;> simp
  simp only[Ad.wayT,Wm.wayT,length_append];lia
 have a5:(queT x.quest).length≤106:=by
  cases hq1:x.quest with
  |none=>simp[queT]
  |some ps=>
   have hk:=hq ps hq1;have hj:=zt (sep:=38) (m:=34) (ys:=ps.map pairT) fun s hs=>by obtain⟨p,hp,rfl⟩:=mem_map.mp hs;have h1:=(hk.2 p hp).1;have h2:=nS (sep:=61) (n:=6) (o:=p.2) fun v hv=>(hk.2 p hp).2 v hv;have:=bV p.1;simp only[pairT,length_append];lia
   rw[length_map] at hj;have:ps.length * (34+1)≤3 * 35:=Nat.mul_le_mul hk.1 (Nat.le_refl _);simp only[queT,length_cons];lia
 have a6:(oT 35 x.mark).length≤22:=by have:=nS (sep:=35) (n:=7) (o:=x.mark) fun v hv=>hm v hv;lia
 have a7:=pY hs hn;refine⟨fun s dl=>by have:=hs s dl;lia,fun ps hp=>?_,fun l hl=>by have:=hm l hl;lia,by lia,?_⟩
 ·obtain⟨q1,q2⟩:=hq ps hp;exact⟨by lia,fun p ad=>⟨by have:=(q2 p ad).1;lia,fun v hv=>by have:=(q2 p ad).2 v hv;lia⟩⟩
 ·unfold Ad.shw;simp only[length_append];lia
noncomputable abbrev QuT:=Option (List (List Nat×Option (List Nat)))
noncomputable def QSm (q:QuT):Prop:=∀ps,q=some ps->(ps.length≤3∧∀p∈ps,p.1.length≤5∧∀v,p.2=some v->v.length≤6)∧∀p∈ps,PairOk p
noncomputable def MSm (m:Option (List Nat)):Prop:=∀l,m=some l->l.length≤7∧∀c∈l,isSg c=true
theorem Dc {cs:List Pc}{bs:List (List Nat×Vl)}(h:GvA cs bs)(ok:∀c∈cs,PcOk c)(l:LastR cs)(hn:(gapsM cs).Nodup):fillM cs (bs.map fun b=>(b.1,vlD b.2))=.ok (stpsM cs bs):=by
 have hN:(bs.map (·.1)).Nodup:=by rw[h.names];exact hn
 have e:=pW (ws:=bs.map fun b=>(b.1,vlD b.2)) h ok l (fun b hb=>jW (by rw[pX];exact hN) (mem_map.mpr ⟨b,hb,rfl⟩));unfold fillM;rw[e,oz (fun w hw=>by obtain⟨b,hb,rfl⟩:=mem_map.mp hw;rw[<- h.names];exact mem_map_of_mem hb)]
noncomputable def madeA (b:Ad)(ss:List (List Nat))(e:Bool)(q:QuT)(m:Option (List Nat)):Ad:={ scheme:=b.scheme,house:=b.house,door:=b.door,rooted:=true,steps:=ss,ends:=e,quest:=q,mark:=m}
theorem pZ {b:Ad}{ss:List (List Nat)}{e:Bool}{q:QuT}{m:Option (List Nat)}(hb:b.Wf)(hs:∀s∈ss,StepOk s)(he:ss=[]->e=true)(hq:QSm q)(hm:MSm m):(madeA b ss e q m).Wf where
 sch:=hb.sch
 hou:=hb.hou
 doo:=hb.doo
 stp:=hs
 roo:=fun _=>rfl
 end_:=he
 que:=fun ps h=>(hq ps h).2
 mar:=fun l h=>(hm l h).2
theorem Dd {b:Ad}{ss:List (List Nat)}{e:Bool}{q:QuT}{m:Option (List Nat)}(hb:b.Wf)(hs:∀s∈ss,StepOk s)(he:ss=[]->e=true)(hq:QSm q)(hm:MSm m)(h4:∀s∈ss,s.length≤400)(hn:ss.length≤25):(madeA b ss e q m).Sz:=
 Db (pZ hb hs he hq hm) (fun ps h=>(hq ps h).1) (fun l h=>(hm l h).1) h4 hn
theorem pd {H:Hp}:∀ss:List (List Nat),IsTAll H (ss.map st) (ss.map tV)
 |[]=>.nil
 |_::ss=>.cons (.str _) (pd ss)
theorem pe:∀{ws:List (List Nat)},ws≠[]->47::joinT 47 ws=ws.flatMap (47::·)
 |[],h=>absurd rfl h
 |[w],_=>by simp[joinT,tlT]
 |w::v::r,_=>by have ih:=pe (ws:=v::r) (by simp);rw[flatMap_cons,<- ih];simp[joinT,tlT]
theorem pf {ws:List (List Nat)}(h:ws≠[])(e:Bool):slT true ws e=ws.flatMap (47::·)++(if e then [47] else []):=by
 rw[<- pe h];unfold slT;have:ws.isEmpty=false:=by cases ws with|nil=>exact absurd rfl h|cons _ _=>rfl
 rw[this];cases e <;> rfl
theorem ph {H:Hp}:∀{cs:List Pc}{xs:List V},IsTAll H (cs.map pcD) xs->PcT H cs xs
 |[],_,.nil=>.nil
 |c::cs,_,.cons h t=>by obtain⟨p,rfl,hp⟩:=jf h.is;exact .cons hp (ph t)
theorem De {H:Hp}{cs:List Pc}{e:Bool}{v:V}(h:IsT H (.tuple [.tuple (cs.map pcD),.bool e]) v):∃p,v=.ref p∧PtAt H cs e p:=by
 obtain⟨p,zs,rfl,hp,hz⟩:=dv h;cases hz with
 |cons h1 h2=>
  cases h2 with
  |cons h3 h4=>cases h4;cases h3;obtain⟨q,xs,rfl,hq,hx⟩:=dv h1;exact⟨p,rfl,q,xs,hp,hq,ph hx⟩
theorem Df {cs:List Pc}{bs:List (List Nat×Vl)}(h:GvA cs bs):∀{i:Nat}{n:List Nat}{x y:Vl},bs[i]?=some (n,x)->((∃a c,x=.txt a∧y=.txt c)∨∃a b c,x=.lst [a,b]∧y=.lst [c,b])->∃P s t S,stpsM cs bs=P++s::S∧stpsM cs (bs.set i (n,y))=P++t::S∧(s=t↔x=y):=by
 induction h with
 |nil=>intro i n x y hi;simp at hi
 |@step w cs bs _ ih=>intro i n x y hi hy;obtain⟨P,s,t,S,e1,e2,e3⟩:=ih hi hy;exact⟨w::P,s,t,S,by show w::stpsM cs bs=_;rw[e1];rfl,by show w::stpsM cs _=_;rw[e2];rfl,e3⟩
 |@gap c x0 cs bs hs _ _ ih=>
  intro i n x y hi hy;cases i with
  |zero=>
   cases hi;rw[List.set_cons_zero,d9 hs,d9 hs];rcases hy with⟨a,d,rfl,rfl⟩|⟨a,b,d,rfl,rfl⟩
   ·refine⟨[],c.head++a++c.tail,c.head++d++c.tail,stpsM cs bs,rfl,rfl,⟨fun e=>?_,fun e=>by cases e;rfl⟩⟩;rw[List.append_cancel_left (List.append_cancel_right e)]
   ·exact⟨[],a,d,b::stpsM cs bs,rfl,rfl,⟨fun e=>by rw[e],fun e=>by cases e;rfl⟩⟩
  |succ i=>obtain⟨P,s,t,S,e1,e2,e3⟩:=ih hi hy;exact⟨stM c x0++P,s,t,S,by rw[d9 hs,e1,append_assoc],by rw[List.set_cons_succ,d9 hs,e2,append_assoc],e3⟩
theorem pi {s t:List Nat}{S:List (List Nat)}:∀P:List (List Nat),((List.range (P++s::S).length).filter fun k=>!decide ((P++s::S)[k]?=(P++t::S)[k]?)).length=if s=t then 0 else 1
 |[]=>by show ((List.range (S.length+1)).filter _).length=_;rw[range_succ_eq_map,filter_cons,filter_map,List.filter_eq_nil_iff.mpr (fun k _=>by simp)];by_cases e:s=t <;> simp[e]
 |x::P=>by show ((List.range ((P++s::S).length+1)).filter _).length=_;rw[range_succ_eq_map,List.filter_cons_of_neg (by simp),filter_map,length_map,<- pi P];rfl
theorem Dg {h s t:List Nat}(hs:s≠[])(hd:isDot s=false):isDot (h++s++t)=false:=by
 obtain⟨d1,d2⟩:=gG.mp hd;have ad:∀u:List Nat,u.length≤2->(∀c∈u,c=46)->h++s++t≠u:=fun u hl hu e=>by
  have hm:∀c∈s,c=46:=fun c hc=>hu c (by rw[<- e];simp[hc]);have hn:=congrArg List.length e;simp only[length_append] at hn;match s,hs,hm,hn,d1,d2 with
  |[a],_,hm,_,_,d2=>exact d2 (by rw[hm a (by simp)];rfl)
  |[a,b],_,hm,_,d1,_=>exact d1 (by rw[hm a (by simp),hm b (by simp)];rfl)
  |a::b::c::r,_,_,hn,_,_=>simp only[length_cons] at hn;lia
 exact gG.mpr ⟨ad _ (by decide) (by decide),ad _ (by decide) (by decide)⟩
theorem pj:∀{gs:List Pc}{bs:List (List Nat×Vl)},(∀c∈gs,c.isStep=false)->bs.map (·.1)=gs.map Pc.name->(∀c∈gs,∀b∈bs,b.1=c.name->GvOk c b.2)->GvA gs bs
 |[],[],_,_,_=>.nil
 |[],_::_,_,h,_=>by cases h
 |_::_,[],_,h,_=>by cases h
 |c::gs,(n,x)::bs,h1,h2,h3=>by rw[map_cons,map_cons] at h2;obtain⟨e1,e2⟩:=List.cons.inj h2;subst e1;exact .gap (h1 c mem_cons_self) (h3 c mem_cons_self _ mem_cons_self rfl) (pj (fun d hd=>h1 d (mem_cons_of_mem _ hd)) e2 fun d hd b hb=>h3 d (mem_cons_of_mem _ hd) b (mem_cons_of_mem _ hb))
theorem pk {x y:Vl}(h:(∃a c,x=.txt a∧y=.txt c)∨∃a b c,x=.lst [a,b]∧y=.lst [c,b]):PyData.eqv (vlD y) (vlD x)=true↔x=y:=by
 rcases h with⟨a,c,rfl,rfl⟩|⟨a,b,c,rfl,rfl⟩
 ·exact (gF c a).trans ⟨fun z=>by rw[z],fun z=>by cases z;rfl⟩
 ·have e:PyData.eqv (vlD (.lst [c,b])) (vlD (.lst [a,b]))=(PyData.eqv (st c) (st a) && (PyData.eqv (st b) (st b) && true)):=rfl;rw[e,d8,Bool.and_true,Bool.and_true];exact (gF c a).trans ⟨fun z=>by rw[z],fun z=>by cases z;rfl⟩
noncomputable def top (i:Nat):Stmt:=PySem.Challenge.pw_waymark_k96_whole_no_text_changes_anothe.main.body.getD i (.Pass ⟨0,0,0,0⟩)
noncomputable abbrev pp:Stmt:=top 16
noncomputable abbrev q0:Stmt:=top 17
noncomputable abbrev q8:Stmt:=top 19
noncomputable abbrev qA:Stmt:=top 20
noncomputable abbrev qB:Stmt:=top 37
noncomputable abbrev qC:Stmt:=top 39
noncomputable abbrev qE:Stmt:=top 41
noncomputable abbrev qF:Stmt:=top 53
noncomputable abbrev qG:Stmt:=top 60
noncomputable abbrev qH:Stmt:=top 73
noncomputable abbrev qI:Stmt:=top 76
noncomputable abbrev qJ:Stmt:=top 77
noncomputable abbrev qK:Stmt:=top 78
noncomputable abbrev qL:Stmt:=top 79
noncomputable abbrev qM:Stmt:=top 80
noncomputable abbrev qO:Stmt:=top 107
noncomputable abbrev qP:Stmt:=top 109
noncomputable abbrev dA:Stmt:=inClass (top 113) 0
noncomputable abbrev dB:Stmt:=inClass (top 113) 1
noncomputable abbrev dC:Stmt:=inClass (top 113) 3
noncomputable abbrev dD:Stmt:=inClass (top 113) 4
noncomputable abbrev qQ:Stmt:=top 118
noncomputable abbrev qR:Stmt:=top 127
noncomputable abbrev qS:Stmt:=top 129
noncomputable abbrev qU:Stmt:=top 131
noncomputable abbrev qV:Stmt:=top 132
noncomputable abbrev qW:Stmt:=top 136
noncomputable abbrev qX:Stmt:=top 142
noncomputable abbrev qY:Stmt:=top 15
noncomputable abbrev qZ:Stmt:=top 18
noncomputable abbrev qa:Stmt:=top 21
noncomputable abbrev qc:Stmt:=top 72
noncomputable abbrev qd:Stmt:=top 75
noncomputable abbrev qe:Stmt:=top 89
noncomputable abbrev qf:Stmt:=top 91
noncomputable abbrev qg:Stmt:=top 92
noncomputable abbrev qh:Stmt:=top 93
noncomputable abbrev qi:Stmt:=top 94
noncomputable abbrev qj:Stmt:=top 99
noncomputable abbrev dE:Stmt:=inClass (top 113) 2
noncomputable abbrev qk:Stmt:=top 128
noncomputable abbrev ql:Stmt:=top 133
noncomputable abbrev qm:Stmt:=top 134
noncomputable abbrev qo:Stmt:=top 137
noncomputable abbrev qp:Stmt:=top 23
noncomputable abbrev qr:Stmt:=top 38
noncomputable abbrev qt:Stmt:=top 40
noncomputable abbrev qu:Stmt:=top 51
noncomputable abbrev qv:Stmt:=top 52
noncomputable abbrev qz:Stmt:=top 55
noncomputable abbrev r0:Stmt:=top 56
noncomputable abbrev r8:Stmt:=top 71
noncomputable abbrev r9:Stmt:=top 74
noncomputable abbrev rA:Stmt:=top 90
noncomputable abbrev rB:Stmt:=top 100
noncomputable abbrev rC:Stmt:=top 117
noncomputable abbrev rD:Stmt:=top 125
noncomputable abbrev rE:Stmt:=top 135
noncomputable abbrev rF:Stmt:=top 138
noncomputable abbrev rG:Stmt:=top 140
noncomputable abbrev gW:Stmt:=top 22
noncomputable abbrev rH:Stmt:=top 54
noncomputable abbrev rJ:Stmt:=top 70
noncomputable abbrev rK:Stmt:=top 88
noncomputable abbrev rL:Stmt:=top 98
noncomputable abbrev rM:Stmt:=top 115
noncomputable abbrev gX:Stmt:=top 124
noncomputable abbrev rN:Stmt:=top 139
noncomputable abbrev rO:Stmt:=top 50
noncomputable abbrev rP:Stmt:=top 69
noncomputable abbrev rQ:Stmt:=top 83
noncomputable abbrev rR:Stmt:=top 87
noncomputable abbrev rS:Stmt:=top 97
noncomputable abbrev rT:Stmt:=top 119
noncomputable abbrev rV:Stmt:=top 121
noncomputable abbrev rW:Stmt:=top 122
noncomputable abbrev gY:Stmt:=top 123
noncomputable abbrev hqq:Stmt:=top 68
noncomputable abbrev rX:Stmt:=top 82
noncomputable abbrev rY:Stmt:=top 96
noncomputable abbrev rZ:Stmt:=top 106
noncomputable abbrev rc:Stmt:=top 116
noncomputable abbrev re:Stmt:=top 120
noncomputable abbrev rf:Stmt:=top 81
noncomputable abbrev rg:Stmt:=top 95
noncomputable abbrev rh:Stmt:=top 114
noncomputable abbrev ri:Stmt:=top 108
noncomputable abbrev gZ:Stmt:=top 110
noncomputable abbrev rj:Stmt:=top 141
noncomputable abbrev rk:Stmt:=top 143
noncomputable abbrev rm:V:=.str (Str.ofString " !\"#$&'()*+,-./0123456789:;<=>?@ABCDEFGHIJKLMNOPQRSTUVWXYZ[\\]^_`abcdefghijklmnopqrstuvwxyz{|}~")
noncomputable abbrev gb:V:=.str (Str.ofString "abcdefghijklmnopqrstuvwxyz")
noncomputable abbrev Dh:V:=.str (Str.ofString "abcdefghijklmnopqrstuvwxyzABCDEFGHIJKLMNOPQRSTUVWXYZ")
noncomputable abbrev Di:V:=.str (Str.ofString "abcdefghijklmnopqrstuvwxyzABCDEFGHIJKLMNOPQRSTUVWXYZ0123456789")
noncomputable abbrev eG:V:=.str (Str.ofString "0123456789")
noncomputable abbrev gc:V:=.str (Str.ofString "abcdefghijklmnopqrstuvwxyzABCDEFGHIJKLMNOPQRSTUVWXYZ0123456789-_.")
noncomputable abbrev cM:V:=.str (Str.ofString "!$'()*,;@&=+")
noncomputable abbrev eH:V:=.str (Str.ofString "!$'()*,;@+/?:")
noncomputable abbrev rn:V:=.str (Str.ofString "!$'()*,;@&=+/?:")
noncomputable abbrev ro:V:=.int 32
noncomputable abbrev Dj:V:=.int 126
noncomputable abbrev rp:V:=.int 37
noncomputable abbrev gd:V:=.str (Str.ofString "0123456789abcdef")
noncomputable abbrev rq:V:=.str (Str.ofString "0123456789ABCDEF")
noncomputable abbrev rz:V:=.int 0
noncomputable abbrev Dk:V:=.int 1
noncomputable abbrev Dl:V:=.int 2
noncomputable abbrev sA:V:=.int 3
noncomputable abbrev Dm:V:=.int 4
noncomputable abbrev Dn:V:=.int 5
noncomputable abbrev sB:V:=.int 0
noncomputable abbrev jl:V:=.int 1
noncomputable abbrev sC:V:=.int 2
noncomputable abbrev Do:V:=.int 8
noncomputable abbrev Dp:V:=.int 60
noncomputable abbrev Dq:V:=.int 65535
noncomputable abbrev Dr:V:=.str (Str.ofString ".")
noncomputable abbrev k_UP:V:=.str (Str.ofString "..")
noncomputable abbrev cN:V:=.int 0
noncomputable abbrev ge:V:=.int 1
noncomputable abbrev Ds:V:=.int 12
noncomputable abbrev Dt:V:=.int 8
noncomputable abbrev Du:V:=.int 60
noncomputable abbrev Dv:V:=.int 60
noncomputable abbrev sD:V:=.str (Str.ofString "234567")
set_option genInjectivity false
set_option genSizeOf false
set_option genSizeOfSpec false
structure D (K:W.Frag)(mg:Str->Option Value) where
 cO:Fd K mg "made_of" pp ["text","signs"]
 jm:Fd K mg "pair_of" q0 ["sign"]
 gf:Fd K mg "figure_number" q8 ["figure"]
 jn:Fd K mg "sign_numbered" qA ["number"]
 gh:Fd K mg "is_whole" qB ["address"]
 dF:Fd K mg "is_tuple" qC ["thing","count"]
 jo:Fd K mg "is_whole_number" qE ["thing"]
 jp:Fd K mg "slashed" qF ["rooted","texts","ends"]
 dG:Fd K mg "is_dot" qG ["step"]
 jq:Fd K mg "rests_stand_last" qH ["pieces"]
 eI:Fd K mg "is_gap" qI ["piece"]
 eJ:Fd K mg "name_of" qJ ["gap"]
 dH:Fd K mg "head_of" qK ["piece"]
 dI:Fd K mg "tail_of" qL ["piece"]
 jr:Fd K mg "has_rest" qM ["pattern"]
 js:Fd K mg "worth_most" qO ["entries"]
 jt:Fd K mg "pattern_named" qP ["table","name"]
 gi:Fd K mg "door_with" qQ ["door","cursor"]
 bQ:Fd K mg "_law_cell_at" qR ["_law_script","_law_k"]
 ju:Fd K mg "_law_names" qS ["_law_cell","_law_many"]
 jv:Fd K mg "_law_run" qU ["_law_cell","_law_signs_here","_law_many"]
 ba:Fd K mg "_law_any" qV ["_law_cell","_law_many"]
 eK:Fd K mg "_law_written" qW ["_law_text"]
 jw:Fd K mg "_law_unlike" qX ["_law_one","_law_other"]
 dJ:Fd K mg "is_text" qY ["thing"]
 gj:Fd K mg "sign_of" qZ ["figures"]
 cP:Fd K mg "written" qa ["text"]
 gk:Fd K mg "is_name" qc ["thing"]
 gl:Fd K mg "names_of" qd ["pieces"]
 jx:Fd K mg "spread" qe ["pattern","count"]
 jy:Fd K mg "fits_part" qf ["part","step"]
 jz:Fd K mg "is_number" qg ["text"]
 gm:Fd K mg "is_word" qh ["text"]
 k6:Fd K mg "bound_value" qi ["gap","steps"]
 k7:Fd K mg "steps_of_value" qj ["gap","value"]
 k8:Fd K mg "_law_cells" qk ["_law_script","_law_start","_law_many"]
 k9:Fd K mg "_law_one_step" ql ["_law_cell","_law_signs_here"]
 gn:Fd K mg "_law_question" qm ["_law_cell"]
 dL:Fd K mg "_law_value" qo ["_law_cell"]
 kA:Fd K mg "sign_written" qp ["piece","free"]
 kB:Fd K mg "is_scheme" qr ["thing"]
 eM:Fd K mg "is_filled_text" qt ["thing"]
 kC:Fd K mg "shown_house" qu ["house","door"]
 kD:Fd K mg "shown_way" qv ["way"]
 kE:Fd K mg "shown_asked" qz ["name","value"]
 kF:Fd K mg "shown_mark" r0 ["mark"]
 kG:Fd K mg "are_ends_of_part" r8 ["head","tail"]
 kH:Fd K mg "names_are_unlike" r9 ["pieces"]
 kI:Fd K mg "step_fits" rA ["piece","step"]
 kJ:Fd K mg "refuse_others" rB ["pattern","values"]
 kK:Fd K mg "taken_door" rC ["cursor"]
 kL:Fd K mg "taken_pair" rD ["cursor"]
 kM:Fd K mg "_law_address" rE ["_law_cells_here","_law_signs_here","_law_whole"]
 kN:Fd K mg "_law_piece_text" rF ["_law_cell","_law_name"]
 kO:Fd K mg "_law_values" rG ["_law_script","_law_start","_law_some","_law_rest"]
 kP:Fd K mg "shown_question" rH ["question"]
 kQ:Fd K mg "is_piece" rJ ["thing"]
 gp:Fd K mg "fits" rK ["pattern","way"]
 kR:Fd K mg "can_be_step" rL ["thing"]
 kS:Fd K mg "taken_scheme" rM ["cursor"]
 kT:Fd K mg "_law_pattern_text" rN ["_law_script","_law_start","_law_names_here"]
 kU:Fd K mg "show" rO ["address"]
 kW:Fd K mg "are_pieces" rP ["things"]
 kX:Fd K mg "read_gap" rQ ["head","inside","tail"]
 kY:Fd K mg "bound" rR ["pattern","way"]
 kZ:Fd K mg "is_value" rS ["gap","value"]
 ka:Fd K mg "taken_way" rT ["cursor","must_be_rooted"]
 gq:Fd K mg "taken_value" rV ["cursor"]
 kc:Fd K mg "taken_mark" rW ["cursor"]
 kd:Fd K mg "is_pattern" hqq ["thing"]
 kf:Fd K mg "read_piece" rX ["text"]
 kg:Fd K mg "filled_steps" rY ["piece","values"]
 kh:Fd K mg "lead" rZ ["table","way"]
 ki:Fd K mg "taken_house" rc ["cursor"]
 kj:Fd K mg "taken_question" re ["cursor"]
 kl:Fd K mg "read_pattern" rf ["text"]
 km:Fd K mg "filled" rg ["pattern","values"]
 kn:Fd K mg "read" rh ["text"]
 ko:Fd K mg "made" ri ["table","name","values"]
 gr:Fd K mg "_law_same" rj ["_law_table","_law_base","_law_values_here","_law_question_here","_law_mark"]
 f_law:Fd K mg "law" rk ["_law_script"]
structure G (K:W.Frag)(mg:Str->Option Value) extends D K mg where
 gt:Addr
 gu:FuncData
 sE:Fun K "__init__" "Cursor.__init__" dA gt gu
 sF:Binds K gu ["self","text"] []
 gv:Addr
 gw:FuncData
 sG:Fun K "at_end" "Cursor.at_end" dB gv gw
 kr:Binds K gw ["self"] []
 gx:Addr
 gy:FuncData
 sH:Fun K "take" "Cursor.take" dC gx gy
 dM:Binds K gy ["self"] []
 gz:Addr
 hC:FuncData
 sI:Fun K "passes" "Cursor.passes" dD gz hC
 bb:Binds K hC ["self","text"] []
 hU:Addr
 i6:FuncData
 sJ:Fun K "sees" "Cursor.sees" dE hU i6
 eO:Binds K i6 ["self","signs"] []
 i7:Addr
 eQ:FuncData
 sK:Addr
 sL:Tok
 eR:FunD K "undone" "undone" gW i7 eQ sK
 Dw:Binds K eQ ["text","free"] [.str (Str.ofString "") sL]
 i8:mg "undone"=some (.ref i7)
 i9:Binds K eQ ["text","free"] []
 iA:Addr
 eT:FuncData
 sM:Addr
 Dx:Tok
 cQ:FunD K "taken_text" "taken_text" gX iA eT sM
 dN:Binds K eT ["cursor","free","most"] [.none]
 ce:mg "taken_text"=some (.ref iA)
 sN:Binds K eT ["cursor","free","most"] []
 iB:Addr
 eU:FuncData
 sO:Addr
 Dy:Tok
 iC:FunD K "taken_filled_text" "taken_filled_text" gY iB eU sO
 sP:Binds K eU ["cursor","free","most"] [.none]
 kt:mg "taken_filled_text"=some (.ref iB)
 sQ:Binds K eU ["cursor","free","most"] []
 iE:Addr
 eV:FuncData
 sR:Addr
 Dz:Tok
 DA:Tok
 iF:FunD K "made_address" "made_address" gZ iE eV sR
 sS:Binds K eV ["table","base","name","values","question","mark"] [.none,.none]
 ku:mg "made_address"=some (.ref iE)
 sU:Binds K eV ["table","base","name","values","question","mark"] []
 aV:Addr
 aW:Cls K aV
 c9:NoAttr K aV "text"
 bR:NoAttr K aV "place"
 sW:mg "Cursor"=some (.ref aV)
 sX:Mk K aV gt
 ky:Meth K aV "at_end" gv
 dO:Meth K aV "take" gx
 bc:Meth K aV "passes" gz
 eW:Meth K aV "sees" hU
 eX:Tok
 kz:mg "SIGNS"=some (.str (Str.ofString " !\"#$&'()*+,-./0123456789:;<=>?@ABCDEFGHIJKLMNOPQRSTUVWXYZ[\\]^_`abcdefghijklmnopqrstuvwxyz{|}~") eX)
 eY:Tok
 l0:mg "SMALL_LETTERS"=some (.str (Str.ofString "abcdefghijklmnopqrstuvwxyz") eY)
 eZ:Tok
 sY:mg "LETTERS"=some (.str (Str.ofString "abcdefghijklmnopqrstuvwxyzABCDEFGHIJKLMNOPQRSTUVWXYZ") eZ)
 ec:Tok
 sZ:mg "LETTERS_AND_FIGURES"=some (.str (Str.ofString "abcdefghijklmnopqrstuvwxyzABCDEFGHIJKLMNOPQRSTUVWXYZ0123456789") ec)
 ee:Tok
 iG:mg "FIGURES"=some (.str (Str.ofString "0123456789") ee)
 eh:Tok
 iH:mg "PLAIN"=some (.str (Str.ofString "abcdefghijklmnopqrstuvwxyzABCDEFGHIJKLMNOPQRSTUVWXYZ0123456789-_.") eh)
 ek:Tok
 dP:mg "FREE_IN_STEPS"=some (.str (Str.ofString "!$'()*,;@&=+") ek)
 el:Tok
 iI:mg "FREE_IN_QUESTIONS"=some (.str (Str.ofString "!$'()*,;@+/?:") el)
 eo:Tok
 sh:mg "FREE_IN_MARKS"=some (.str (Str.ofString "!$'()*,;@&=+/?:") eo)
 eu:Tok
 l4:mg "FIRST_NUMBER"=some (.int 32 eu)
 ey:Tok
 si:mg "LAST_NUMBER"=some (.int 126 ey)
 f7:Tok
 l5:mg "NUMBER_LEFT_OUT"=some (.int 37 f7)
 f8:Tok
 f9:mg "SMALL_FIGURES"=some (.str (Str.ofString "0123456789abcdef") f8)
 fA:Tok
 l6:mg "GREAT_FIGURES"=some (.str (Str.ofString "0123456789ABCDEF") fA)
 fB:Tok
 l7:mg "SCHEME"=some (.int 0 fB)
 fC:Tok
 sj:mg "HOUSE"=some (.int 1 fC)
 fD:Tok
 sk:mg "DOOR"=some (.int 2 fD)
 fE:Tok
 l8:mg "WAY"=some (.int 3 fE)
 fF:Tok
 so:mg "QUESTION"=some (.int 4 fF)
 fG:Tok
 sq:mg "MARK"=some (.int 5 fG)
 fH:Tok
 l9:mg "ROOTED"=some (.int 0 fH)
 fI:Tok
 iJ:mg "STEPS"=some (.int 1 fI)
 fJ:Tok
 lA:mg "ENDS"=some (.int 2 fJ)
 fK:Tok
 sr:mg "LONGEST_SCHEME"=some (.int 8 fK)
 fL:Tok
 su:mg "LONGEST_HOUSE"=some (.int 60 fL)
 fM:Tok
 sv:mg "LAST_DOOR"=some (.int 65535 fM)
 fN:Tok
 sw:mg "STAY"=some (.str (Str.ofString ".") fN)
 t_UP:Tok
 c_UP:mg "UP"=some (.str (Str.ofString "..") t_UP)
 fO:Tok
 cA:mg "PIECES"=some (.int 0 fO)
 fP:Tok
 fQ:mg "CLOSES"=some (.int 1 fP)
 fR:Tok
 t5:mg "MOST_PIECES"=some (.int 12 fR)
 fS:Tok
 t6:mg "LONGEST_NAME"=some (.int 8 fS)
 iK:Addr
 t7:mg "NAMED_WORDS"=some (.ref iK)
 t8:∀H,IsK K H (.tuple [.str (Str.ofString "number"),.str (Str.ofString "word"),.str (Str.ofString "gap"),.str (Str.ofString "rest")]) (.ref iK)
 iL:Addr
 t9:mg "WRITTEN_WORDS"=some (.ref iL)
 tD:∀H,IsK K H (.tuple [.str (Str.ofString "number"),.str (Str.ofString "word"),.str (Str.ofString "rest")]) (.ref iL)
 fT:Tok
 tE:mg "LONGEST_NUMBER"=some (.int 60 fT)
 fU:Tok
 tF:mg "LONGEST_WORD"=some (.int 60 fU)
 fV:Tok
 tG:mg "FIRST_FIGURES"=some (.str (Str.ofString "234567") fV)
 dQ:mg "all"=none
 iM:mg "ord"=none
 aZ:mg "len"=none
 bE:mg "isinstance"=none
 bn:mg "tuple"=none
 lB:mg "bool"=none
 cB:mg "int"=none
 bo:mg "range"=none
 cC:mg "str"=none
 iN:mg "list"=none
 tH:mg "set"=none
 lC:mg "enumerate"=none
 tI:mg "zip"=none
inductive sp_made_of (vs:List V)(H:Hp)(Q:VK)(E:XK):Prop
 |mk (x y:Str):vs=[.str x,.str y]->x.length≤100000->(∀H',Same H H'->Q (.bl (x.cps.toList.all fun c=>decide (c∈y.cps.toList))) H')->sp_made_of vs H Q E
noncomputable def tJ:Sp:=fun vs H Q _=>∃c:Nat,vs=[one c]∧c < 256∧Q (.str ⟨[126,hexd (c / 16),hexd (c % 16)].toArray⟩) H
noncomputable def tK:Sp:=fun vs H Q _=>∃a:Nat,vs=[one a]∧a < 128∧Q (figV a) H
inductive sp_sign_numbered (vs:List V)(H:Hp)(Q:VK)(E:XK):Prop
 |mk (n:Nat):vs=[.int (n:Int)]->Q (sgV n) H->sp_sign_numbered vs H Q E
inductive sp_is_whole (K:W.Frag)(vs:List V)(H:Hp)(Q:VK)(E:XK):Prop
 |mk (p:Addr) (l:List Nat) (r:List V):vs=[.ref p]->SqT K H p (.str ⟨l.toArray⟩::r)->Q (.bl (!decide (l=[]))) H->sp_is_whole K vs H Q E
inductive sp_is_tuple (vs:List V)(H:Hp)(Q:VK)(E:XK):Prop
 |mk (d:PyData) (v:V) (n:Int):vs=[v,.int n]->Is H d v->Q (.bl (tupN n d)) H->sp_is_tuple vs H Q E
inductive sp_is_whole_number (vs:List V)(H:Hp)(Q:VK)(E:XK):Prop
 |mk (d:PyData) (v:V):vs=[v]->Is H d v->Q (.bl (match d with|.int _=>true|_=>false)) H->sp_is_whole_number vs H Q E
inductive sp_slashed (K:W.Frag)(vs:List V)(H:Hp)(Q:VK)(E:XK):Prop
 |mk (r e:Bool) (p:Addr) (ts:List (List Nat)):vs=[.bl r,.ref p,.bl e]->SqL K H p (ts.map fun l=>V.str ⟨l.toArray⟩)->(joinT 47 ts).length≤90000->Q (.str ⟨(slT r ts e).toArray⟩) H->sp_slashed K vs H Q E
inductive sp_is_dot (vs:List V)(H:Hp)(Q:VK)(E:XK):Prop
 |mk (s:Stp):vs=[sV s]->Q (.bl (isDot s)) H->sp_is_dot vs H Q E
inductive sp_rests_stand_last (K:W.Frag)(vs:List V)(H:Hp)(Q:VK)(E:XK):Prop
 |mk (cs:List Pc) (xs:List V) (q:Addr):vs=[.ref q]->H q=some (.tup xs)->PcAll K H cs xs->cs.length≤1000->(∀H',Same H H'->Q (.bl (restsL cs)) H')->sp_rests_stand_last K vs H Q E
inductive sp_is_gap (K:W.Frag)(vs:List V)(H:Hp)(Q:VK)(E:XK):Prop
 |mk (c:Pc) (p:Addr):vs=[.ref p]->SqT K H p c.vals->Q (.bl (!c.isStep)) H->sp_is_gap K vs H Q E
inductive sp_name_of (K:W.Frag)(vs:List V)(H:Hp)(Q:VK)(E:XK):Prop
 |mk (c:Pc) (p:Addr):vs=[.ref p]->SqT K H p c.vals->c.isStep=false->Q (tV c.name) H->sp_name_of K vs H Q E
inductive sp_head_of (K:W.Frag)(vs:List V)(H:Hp)(Q:VK)(E:XK):Prop
 |mk (c:Pc) (p:Addr):vs=[.ref p]->SqT K H p c.vals->Q (tV c.head) H->sp_head_of K vs H Q E
inductive sp_tail_of (K:W.Frag)(vs:List V)(H:Hp)(Q:VK)(E:XK):Prop
 |mk (c:Pc) (p:Addr):vs=[.ref p]->SqT K H p c.vals->Q (tV c.tail) H->sp_tail_of K vs H Q E
inductive sp_has_rest (K:W.Frag)(vs:List V)(H:Hp)(Q:VK)(E:XK):Prop
 |mk (cs:List Pc) (xs:List V) (p q:Addr) (e:Bool):vs=[.ref p]->SqT K H p [.ref q,.bl e]->SqT K H q xs->PcAll K H cs xs->cs.length≤1000->Q (.bl (hasRest cs)) H->sp_has_rest K vs H Q E
inductive sp_worth_most (K:W.Frag)(vs:List V)(H:Hp)(Q:VK)(E:XK):Prop
 |mk (l:Addr) (v:V):vs=[.ref l]->H l=some (.lst [v])->(∀H',Same H H'->Q v H')->sp_worth_most K vs H Q E
inductive sp_pattern_named (K:W.Frag)(vs:List V)(H:Hp)(Q:VK)(E:XK):Prop
 |mk (l:Addr) (T:List Rw) (ws:List V) (n:List Nat) (t:Rw):vs=[.ref l,tV n]->H l=some (.lst ws)->TbV H T ws->T.find? (fun t=>decide (t.1=n))=some t->(∀(p:Addr) (H':Hp),Same H H'->PtAt H' t.2.1 t.2.2 p->Q (.ref p) H')->sp_pattern_named K vs H Q E
inductive sp_Cursor___init__ (K:W.Frag)(C:Addr)(vs:List V)(H:Hp)(Q:VK)(E:XK):Prop
 |mk (p dx:Addr) (t:List Nat):vs=[.ref p,.str ⟨t.toArray⟩]->H p=some (.ins C dx [])->(∀H',SameBut p H H'->Cur H' C p t 0->Q .non H')->sp_Cursor___init__ K C vs H Q E
inductive sp_Cursor_at_end (K:W.Frag)(C:Addr)(vs:List V)(H:Hp)(Q:VK)(E:XK):Prop
 |mk (p:Addr) (t:List Nat) (i:Nat):vs=[.ref p]->Cur H C p t i->t.length≤100000->Q (.bl (decide (i=t.length))) H->sp_Cursor_at_end K C vs H Q E
inductive sp_Cursor_take (K:W.Frag)(C:Addr)(vs:List V)(H:Hp)(Q:VK)(E:XK):Prop
 |mk (p:Addr) (t:List Nat) (i c:Nat):vs=[.ref p]->Cur H C p t i->t[i]?=some c->t.length≤100000->(∀H',SameBut p H H'->Cur H' C p t (i+1)->Q (.str ⟨#[c]⟩) H')->sp_Cursor_take K C vs H Q E
inductive sp_Cursor_passes (K:W.Frag)(C:Addr)(vs:List V)(H:Hp)(Q:VK)(E:XK):Prop
 |mk (p:Addr) (t w:List Nat) (i:Nat):vs=[.ref p,.str ⟨w.toArray⟩]->Cur H C p t i->i≤t.length->t.length≤100000->((t.drop i).take w.length=w->∀H',SameBut p H H'->Cur H' C p t (i+w.length)->Q (.bl true) H')->(¬ (t.drop i).take w.length=w->Q (.bl false) H)->sp_Cursor_passes K C vs H Q E
inductive sp_door_with (K:W.Frag)(C:Addr)(vs:List V)(H:Hp)(Q:VK)(E:XK):Prop
 |mk (p:Addr) (t:List Nat) (i c n:Nat):vs=[.int (n:Int),.ref p]->Cur H C p t i->t.length≤100000->t[i]?=some c->48≤c->c≤57->n≤100000->Q (.int ((n * 10+(c - 48):Nat):Int)) H->sp_door_with K C vs H Q E
inductive sp__law_cell_at (K:W.Frag)(vs:List V)(H:Hp)(Q:VK)(E:XK):Prop
 |mk (a:Addr) (ns:List Int) (k:Nat):vs=[.ref a,.int (k:Int)]->SqL K H a (ns.map V.int)->Q (.int (ns.getD k 0)) H->sp__law_cell_at K vs H Q E
inductive sp__law_names (K:W.Frag)(vs:List V)(H:Hp)(Q:VK)(E:XK):Prop
 |mk (c:Int) (m:Nat):vs=[.int c,.int (m:Int)]->m≤26->(∀(ns:List (List Nat)) (p:Addr) (H':Hp),ns.length=m->(∀n∈ns,0 < n.length∧n.length≤8∧n.all isSma=true)->ns.Nodup->Same H H'->H' p=some (.lst (ns.map tV))->Q (.ref p) H')->sp__law_names K vs H Q E
inductive sp__law_run (vs:List V)(H:Hp)(Q:VK)(E:XK):Prop
 |mk (c:Int) (g:List Nat) (m:Nat):vs=[.int c,tV g,.int (m:Int)]->0 < g.length->g.length≤100->m≤100->(∀l:List Nat,l.length=m->(∀x∈l,x∈g)->Q (tV l) H)->sp__law_run vs H Q E
inductive sp__law_any (vs:List V)(H:Hp)(Q:VK)(E:XK):Prop
 |mk (c:Int) (m:Nat):vs=[.int c,.int (m:Int)]->m≤20->(∀l:List Nat,l.length=m->(∀x∈l,isSg x=true)->Q (tV l) H)->sp__law_any vs H Q E
inductive sp__law_written (vs:List V)(H:Hp)(Q:VK)(E:XK):Prop
 |mk (l:List Nat):vs=[tV l]->(∀x∈l,isSg x=true)->l.length≤100->Q (tV (wr l)) H->sp__law_written vs H Q E
noncomputable def AdW (H:Hp)(p:Addr)(ss:List (List Nat))(e:Bool)(vq vm:V):Prop:=∃(a0 a1 a2:V) (pw qs:Addr),H p=some (.tup [a0,a1,a2,.ref pw,vq,vm])∧H pw=some (.tup [.bl true,.ref qs,.bl e])∧H qs=some (.tup (ss.map tV))
inductive sp__law_unlike (K:W.Frag)(vs:List V)(H:Hp)(Q:VK)(E:XK):Prop
 |mk (p p':Addr) (ss ss':List (List Nat)) (e:Bool) (vq vm vq' vm':V):vs=[.ref p,.ref p']->AdW H p ss e vq vm->AdW H p' ss' e vq' vm'->ss.length=ss'.length->ss.length≤100->(∀(l:Addr) (H':Hp),Same H H'->H' l=some (.lst (((List.range ss.length).filter fun k=>!decide (ss[k]?=ss'[k]?)).map fun k:Nat=>V.int (0+(k:Int))))->Q (.ref l) H')->sp__law_unlike K vs H Q E
inductive sp_is_text (vs:List V)(H:Hp)(Q:VK)(E:XK):Prop
 |mk (d:PyData) (v:V):vs=[v]->Is H d v->smallD d=true->(∀H',Same H H'->Q (.bl (tx d)) H')->sp_is_text vs H Q E
noncomputable def tL:Sp:=fun vs H Q _=>∃l:List Nat,vs=[.str ⟨l.toArray⟩]∧l.length≤1000∧(∀c∈l,c < 128)∧Q (signOfL l) H
noncomputable def fW:Sp:=fun vs H Q _=>∃l:List Nat,vs=[.str ⟨l.toArray⟩]∧l.length≤2000∧(∀c∈l,isSg c=true)∧∀H',Same H H'->Q (.str ⟨(wr l).toArray⟩) H'
inductive sp_is_name (vs:List V)(H:Hp)(Q:VK)(E:XK):Prop
 |mk (n:List Nat):vs=[tV n]->NmOk n->(∀H',Same H H'->Q (.bl true) H')->sp_is_name vs H Q E
inductive sp_names_of (K:W.Frag)(vs:List V)(H:Hp)(Q:VK)(E:XK):Prop
 |mk (cs:List Pc) (xs:List V) (q:Addr):vs=[.ref q]->SqT K H q xs->PcAll K H cs xs->cs.length≤1000->(∀(p:Addr) (H':Hp),Same H H'->H' p=some (.lst ((gapsM cs).map tV))->Q (.ref p) H')->sp_names_of K vs H Q E
inductive sp_spread (K:W.Frag)(vs:List V)(H:Hp)(Q:VK)(E:XK):Prop
 |mk (cs:List Pc) (xs:List V) (p q:Addr) (e:Bool) (n:Nat):vs=[.ref p,.int (n:Int)]->SqT K H p [.ref q,.bl e]->H q=some (.tup xs)->PcAll K H cs xs->cs.length≤100->n≤500->(spreadM cs n=none->Q .non H)->(∀(ds:List Pc) (ys:List V) (r:Addr) (H':Hp),spreadM cs n=some ds->Same H H'->SqT K H' r ys->PcAll K H' ds ys->Q (.ref r) H')->sp_spread K vs H Q E
inductive sp_fits_part (K:W.Frag)(vs:List V)(H:Hp)(Q:VK)(E:XK):Prop
 |mk (h n t s:List Nat) (p:Addr):vs=[.ref p,tV s]->SqT K H p (Pc.part h n t).vals->s.length≤100000->h.length≤100000->t.length≤100000->Q (.bl (partB h t s)) H->sp_fits_part K vs H Q E
inductive sp_is_number (vs:List V)(H:Hp)(Q:VK)(E:XK):Prop
 |mk (l:List Nat):vs=[tV l]->l.length≤100000->(∀H',Same H H'->Q (.bl (numB l)) H')->sp_is_number vs H Q E
inductive sp_is_word (vs:List V)(H:Hp)(Q:VK)(E:XK):Prop
 |mk (l:List Nat):vs=[tV l]->l.length≤100000->(∀H',Same H H'->Q (.bl (wordB l)) H')->sp_is_word vs H Q E
inductive sp_bound_value (K:W.Frag)(vs:List V)(H:Hp)(Q:VK)(E:XK):Prop
 |mk (c:Pc) (s:List Nat) (ss:List (List Nat)) (p q:Addr):vs=[.ref p,.ref q]->SqT K H p c.vals->H q=some (.tup ((s::ss).map tV))->fitsM c s=true->s.length≤100000->c.head.length≤100000->c.tail.length≤100000->ss.length≤1000->(∀v H',Same H H'->VlV H' (bvM c (s::ss)) v->(∀q,v=.ref q->H q=none)->Q v H')->sp_bound_value K vs H Q E
inductive sp_steps_of_value (K:W.Frag)(vs:List V)(H:Hp)(Q:VK)(E:XK):Prop
 |mk (c:Pc) (p:Addr) (d:PyData) (v:V):vs=[.ref p,v]->SqT K H p c.vals->c.isStep=false->c.head.length≤100000->c.tail.length≤100000->Is H d v->smallD d=true->isValD c d=true->(∀(q:Addr) (H':Hp),Same H H'->H' q=some (.lst ((stpsD c d).map tV))->Q (.ref q) H')->sp_steps_of_value K vs H Q E
inductive sp_Cursor_sees (K:W.Frag)(C:Addr)(vs:List V)(H:Hp)(Q:VK)(E:XK):Prop
 |mk (p:Addr) (t sg:List Nat) (i:Nat):vs=[.ref p,.str ⟨sg.toArray⟩]->Cur H C p t i->i≤t.length->t.length≤100000->Q (.bl (seesB t sg i)) H->sp_Cursor_sees K C vs H Q E
inductive sp__law_cells (K:W.Frag)(vs:List V)(H:Hp)(Q:VK)(E:XK):Prop
 |mk (a:Addr) (ns:List Int) (s m:Nat):vs=[.ref a,.int (s:Int),.int (m:Int)]->SqL K H a (ns.map V.int)->m≤100->(∀(is:List Int) (p:Addr) (H':Hp),is.length=m->Same H H'->H' p=some (.lst (is.map V.int))->Q (.ref p) H')->sp__law_cells K vs H Q E
inductive sp__law_one_step (vs:List V)(H:Hp)(Q:VK)(E:XK):Prop
 |mk (c:Int) (g:List Nat):vs=[.int c,tV g]->0 < g.length->g.length≤100->(∀x∈g,isSg x=true)->(∀l:List Nat,l≠[]->l.length≤3->(∀x∈l,isSg x=true)->Q (tV l) H)->sp__law_one_step vs H Q E
inductive sp__law_question (K:W.Frag)(vs:List V)(H:Hp)(Q:VK)(E:XK):Prop
 |mk (c:Int):vs=[.int c]->(∀(qs:Option (List (List Nat×Option (List Nat)))) (v:V) (H':Hp),QSm qs->Same H H'->IsT H' (qD qs) v->Q v H')->sp__law_question K vs H Q E
noncomputable def VtOk (l:List Nat):Prop:=l≠[]∧l.length≤5∧(∀x∈l,isSg x=true)∧isDot l=false
inductive sp__law_value (vs:List V)(H:Hp)(Q:VK)(E:XK):Prop
 |mk (c:Int):vs=[.int c]->(∀l:List Nat,VtOk l->Q (tV l) H)->sp__law_value vs H Q E
noncomputable def tM:Sp:=fun vs H Q _=>∃(c:Nat) (r fr:List Nat),vs=[.str ⟨(c::r).toArray⟩,.str ⟨fr.toArray⟩]∧r.length≤1000∧(∀d∈c::r,d < 128)∧(c=126∨r=[])∧Q (swV fr (c::r)) H
inductive sp_is_scheme (vs:List V)(H:Hp)(Q:VK)(E:XK):Prop
 |mk (d:PyData) (v:V):vs=[v]->Is H d v->smallD d=true->(∀H',Same H H'->Q (.bl (schD d)) H')->sp_is_scheme vs H Q E
inductive sp_is_filled_text (vs:List V)(H:Hp)(Q:VK)(E:XK):Prop
 |mk (d:PyData) (v:V):vs=[v]->Is H d v->smallD d=true->(∀H',Same H H'->Q (.bl (ftx d)) H')->sp_is_filled_text vs H Q E
inductive sp_shown_house (vs:List V)(H:Hp)(Q:VK)(E:XK):Prop
 |mk (o:Option (List Nat)) (d:Option Int):vs=[otV o,itV d]->(∀l,o=some l->l.length≤60∧∀c∈l,isSg c=true)->(∀i,d=some i->(0≤i∧i≤65535)∧o≠none)->(∀H',Same H H'->Q (.str ⟨(houT o++dooT d).toArray⟩) H')->sp_shown_house vs H Q E
inductive sp_shown_way (K:W.Frag)(vs:List V)(H:Hp)(Q:VK)(E:XK):Prop
 |mk (r e:Bool) (ss:List (List Nat)) (p q:Addr):vs=[.ref p]->SqT K H p [.bl r,.ref q,.bl e]->SqT K H q (ss.map fun l=>V.str ⟨l.toArray⟩)->(∀s∈ss,s.length≤2000∧∀c∈s,isSg c=true)->ss.length≤2000->(wayT r ss e).length≤90000->(∀H',Same H H'->Q (.str ⟨(wayT r ss e).toArray⟩) H')->sp_shown_way K vs H Q E
inductive sp_shown_asked (vs:List V)(H:Hp)(Q:VK)(E:XK):Prop
 |mk (n:List Nat) (o:Option (List Nat)):vs=[.str ⟨n.toArray⟩,otV o]->PairOk (n,o)->n.length≤2000->(∀l,o=some l->l.length≤2000)->(∀H',Same H H'->Q (.str ⟨(pairT (n,o)).toArray⟩) H')->sp_shown_asked vs H Q E
inductive sp_shown_mark (vs:List V)(H:Hp)(Q:VK)(E:XK):Prop
 |mk (o:Option (List Nat)):vs=[otV o]->(∀l,o=some l->l.length≤2000∧∀c∈l,isSg c=true)->(∀H',Same H H'->Q (.str ⟨(oT 35 o).toArray⟩) H')->sp_shown_mark vs H Q E
inductive sp_are_ends_of_part (vs:List V)(H:Hp)(Q:VK)(E:XK):Prop
 |mk (a b:List Nat):vs=[tV a,tV b]->a.length≤100->b.length≤100->(∀c∈a,isSg c=true)->(∀c∈b,isSg c=true)->a++b≠[]->(∀H',Same H H'->Q (.bl true) H')->sp_are_ends_of_part vs H Q E
inductive sp_names_are_unlike (K:W.Frag)(vs:List V)(H:Hp)(Q:VK)(E:XK):Prop
 |mk (cs:List Pc) (xs:List V) (q:Addr):vs=[.ref q]->H q=some (.tup xs)->PcAll K H cs xs->cs.length≤1000->(∀H',Same H H'->Q (.bl (decide ((gapsM cs).Nodup))) H')->sp_names_are_unlike K vs H Q E
inductive sp_step_fits (K:W.Frag)(vs:List V)(H:Hp)(Q:VK)(E:XK):Prop
 |mk (c:Pc) (s:List Nat) (p:Addr):vs=[.ref p,tV s]->SqT K H p c.vals->s.length≤100000->c.head.length≤100000->c.tail.length≤100000->(∀H',Same H H'->Q (.bl (fitsM c s)) H')->sp_step_fits K vs H Q E
inductive sp_refuse_others (K:W.Frag)(vs:List V)(H:Hp)(Q:VK)(E:XK):Prop
 |mk (cs:List Pc) (xs:List V) (p q pz:Addr) (cl:Bool) (ws:List (List Nat×PyData)) (ys:List V):vs=[.ref p,.ref pz]->SqT K H p [.ref q,.bl cl]->SqT K H q xs->PcAll K H cs xs->cs.length≤100->H pz=some (.lst ys)->VlsV H ws ys->ws.length≤100000->otherM cs ws=none->(∀H',Same H H'->Q .non H')->sp_refuse_others K vs H Q E
inductive sp_taken_door (K:W.Frag)(C:Addr)(vs:List V)(H:Hp)(Q:VK)(E:XK):Prop
 |mk (p:Addr) (t w r:List Nat) (i:Nat) (o:Option Int):vs=[.ref p]->Cur H C p t i->i≤t.length->t.length≤100000->(∀c∈t,c < 128)->t.drop i=w++r->DooW o w->(∀c,r.head?=some c->¬ (48≤c∧c≤57))->(o=none->r.head?≠some 58)->(∀H',SameBut p H H'->Cur H' C p t (i+w.length)->Q (itV o) H')->sp_taken_door K C vs H Q E
inductive sp_taken_pair (K:W.Frag)(C:Addr)(vs:List V)(H:Hp)(Q:VK)(E:XK):Prop
 |mk (p:Addr) (t r:List Nat) (i a b c:Nat):vs=[.ref p]->Cur H C p t i->t.drop i=a::b::r->sgO a b=some c->t.length≤100000->(∀H',SameBut p H H'->Cur H' C p t (i+2)->Q (.str ⟨#[c]⟩) H')->sp_taken_pair K C vs H Q E
inductive sp__law_address (K:W.Frag)(vs:List V)(H:Hp)(Q:VK)(E:XK):Prop
 |mk (pc:Addr) (is:List Int) (g:List Nat):vs=[.ref pc,tV g,.bl true]->H pc=some (.lst (is.map V.int))->is.length=7->0 < g.length->g.length≤100->(∀x∈g,isSg x=true)->(∀(x:Ad) (u:V) (H':Hp),x.Ok->x.scheme≠[]->Same H H'->IsT H' x.data u->Q u H')->sp__law_address K vs H Q E
noncomputable def PcOf (c:Int)(n:List Nat)(p:Pc):Prop:=(c % 3=0∧∃l,p=.step l∧VtOk l)∨(c % 3≠0∧p.isStep=false∧p.isRest=false∧p.name=n∧PcOk p∧((∃h t,p=.part h n t∧h.length≤2∧t.length≤2)∨p=.gap n))
inductive sp__law_piece_text (vs:List V)(H:Hp)(Q:VK)(E:XK):Prop
 |mk (c:Int) (n:List Nat):vs=[.int c,tV n]->NmOk n->(∀(p:Pc) (w:List Nat),PcOf c n p->PcW p w->w.length≤100->Q (tV w) H)->sp__law_piece_text vs H Q E
noncomputable def VlOf (r n:List Nat)(x:Vl):Prop:=(n=r∧∃a b,x=.lst [a,b]∧VtOk a∧VtOk b)∨(n≠r∧∃a,x=.txt a∧VtOk a)
inductive sp__law_values (K:W.Frag)(vs:List V)(H:Hp)(Q:VK)(E:XK):Prop
 |mk (a lg:Addr) (ns:List Int) (s:Nat) (gs:List (List Nat)) (r:List Nat):vs=[.ref a,.int (s:Int),.ref lg,tV r]->SqL K H a (ns.map V.int)->H lg=some (.lst (gs.map tV))->gs.length≤5->(∀(bs:List (List Nat×Vl)) (l:Addr) (ys:List V) (H':Hp),bs.map (·.1)=gs->(∀b∈bs,VlOf r b.1 b.2)->H l=none->Same H H'->H' l=some (.lst ys)->BndV H' l bs ys->Q (.ref l) H')->sp__law_values K vs H Q E
noncomputable def tN:Sp:=fun vs H Q _=>∃l fr:List Nat,vs=[.str ⟨l.toArray⟩,.str ⟨fr.toArray⟩]∧l.length≤2000∧(∀c∈l,c < 128)∧∀H',Same H H'->Q (undV (und fr l)) H'
inductive sp_shown_question (K:W.Frag)(vs:List V)(H:Hp)(Q:VK)(E:XK):Prop
 |mk (q:Option (List (List Nat×Option (List Nat)))) (v:V):vs=[v]->IsK K H (qD q) v->(∀ps,q=some ps->ps.length≤2000∧∀p∈ps,PairOk p∧p.1.length≤2000∧∀l,p.2=some l->l.length≤2000)->(queT q).length≤90000->(∀H',Same H H'->Q (.str ⟨(queT q).toArray⟩) H')->sp_shown_question K vs H Q E
inductive sp_is_piece (K:W.Frag)(vs:List V)(H:Hp)(Q:VK)(E:XK):Prop
 |mk (c:Pc) (v:V):vs=[v]->IsT H (pcD c) v->PcOk c->(c.isStep=false->NmOk c.name)->(∀H',Same H H'->Q (.bl true) H')->sp_is_piece K vs H Q E
inductive sp_fits (K:W.Frag)(vs:List V)(H:Hp)(Q:VK)(E:XK):Prop
 |mk (cs:List Pc) (xs:List V) (p q pw ps:Addr) (cl r e:Bool) (ss:List (List Nat)):vs=[.ref p,.ref pw]->SqT K H p [.ref q,.bl cl]->H q=some (.tup xs)->PcAll K H cs xs->cs.length≤100->PcSz cs->SqT K H pw [.bl r,.ref ps,.bl e]->SqT K H ps (ss.map tV)->ss.length≤500->(∀s∈ss,s.length≤100000)->(∀H',Same H H'->Q (.bl (fitsP cs cl r ss e)) H')->sp_fits K vs H Q E
inductive sp_can_be_step (K:W.Frag)(vs:List V)(H:Hp)(Q:VK)(E:XK):Prop
 |mk (d:PyData) (v:V):vs=[v]->Is H d v->smallD d=true->(∀H',Same H H'->Q (.bl (canD d)) H')->sp_can_be_step K vs H Q E
inductive sp_taken_scheme (K:W.Frag)(C:Addr)(vs:List V)(H:Hp)(Q:VK)(E:XK):Prop
 |mk (p:Addr) (t:List Nat):vs=[.ref p]->Cur H C p t 0->t.length≤90000->(∀H',SameBut p H H'->Cur H' C p t (schP t)->Q (.str ⟨(schM t).toArray⟩) H')->sp_taken_scheme K C vs H Q E
inductive sp_taken_text (K:W.Frag)(C:Addr)(vs:List V)(H:Hp)(Q:VK)(E:XK):Prop
 |mk (p:Addr) (t fr s w r:List Nat) (i:Nat) (mo:Option Nat):vs=[.ref p,.str ⟨fr.toArray⟩,moV mo]->Cur H C p t i->i≤t.length->t.length≤100000->(∀c∈t,c < 128)->fr.length≤100->t.drop i=w++r->WrT fr s w->((Stops fr r∨mo=some s.length))->(∀m,mo=some m->s.length≤m)->(∀H',SameBut p H H'->Cur H' C p t (i+w.length)->Q (.str ⟨s.toArray⟩) H')->sp_taken_text K C vs H Q E
noncomputable def PtOf (nm:List (List Nat))(cs:List Pc):Prop:=PatOk cs∧(0 < cs.length∧cs.length≤5)∧(gapsM cs).Nodup∧∀c∈cs,c.isStep=false->NmOk c.name∧c.name∈nm.take 5∧(c.isRest=true↔nm[4]?=some c.name)∧(c.isRest=false->(∃h t,c=.part h c.name t)∨c=.gap c.name)
inductive sp__law_pattern_text (K:W.Frag)(vs:List V)(H:Hp)(Q:VK)(E:XK):Prop
 |mk (a pn:Addr) (ns:List Int) (s:Nat) (nm:List (List Nat)):vs=[.ref a,.int (s:Int),.ref pn]->SqL K H a (ns.map V.int)->H pn=some (.lst (nm.map tV))->nm.length=6->(∀n∈nm,NmOk n)->nm.Nodup->(∀(cs:List Pc) (e:Bool) (ws:List (List Nat)) (p l:Addr) (H':Hp),PtOf nm cs->PcWs cs ws->(∀w∈ws,w.length≤100)->Same H H'->H' l=some (.lst ((gapsM cs).map tV))->H' p=some (.tup [tV (slT true ws e),.ref l])->Q (.ref p) H')->sp__law_pattern_text K vs H Q E
inductive sp_show (K:W.Frag)(vs:List V)(H:Hp)(Q:VK)(E:XK):Prop
 |mk (x:Ad) (v:V):vs=[v]->IsK K H x.data v->x.Wf->x.Sz->(∀H',Same H H'->Q (.str ⟨x.shw.toArray⟩) H')->sp_show K vs H Q E
inductive sp_are_pieces (K:W.Frag)(vs:List V)(H:Hp)(Q:VK)(E:XK):Prop
 |mk (cs:List Pc) (e:Bool) (xs:List V) (q:Addr):vs=[.ref q]->H q=some (.tup xs)->IsTAll H (cs.map pcD) xs->PtG cs e->(∀H',Same H H'->Q (.bl true) H')->sp_are_pieces K vs H Q E
inductive sp_read_gap (K:W.Frag)(vs:List V)(H:Hp)(Q:VK)(E:XK):Prop
 |mk (c:Pc) (a i b:List Nat):vs=[tV a,tV i,tV b]->GpW c a i b->a.length≤2000->i.length≤2000->b.length≤2000->(∀(v:V) (H':Hp),Same H H'->IsT H' (pcD c) v->Q v H')->sp_read_gap K vs H Q E
inductive sp_bound (K:W.Frag)(vs:List V)(H:Hp)(Q:VK)(E:XK):Prop
 |mk (cs:List Pc) (xs:List V) (p q pw ps:Addr) (cl r e:Bool) (ss:List (List Nat)):vs=[.ref p,.ref pw]->SqT K H p [.ref q,.bl cl]->H q=some (.tup xs)->PcAll K H cs xs->cs.length≤100->PcSz cs->SqT K H pw [.bl r,.ref ps,.bl e]->H ps=some (.tup (ss.map tV))->ss.length≤500->(∀s∈ss,s.length≤100000)->(fitsP cs cl r ss e=false->∀H',Same H H'->Q .non H')->(fitsP cs cl r ss e=true->∀(l:Addr) (ys:List V) (H':Hp),H l=none->FrB H H' ys->Same H H'->H' l=some (.lst ys)->BndV H' l (boundM cs ss) ys->Q (.ref l) H')->sp_bound K vs H Q E
inductive sp_is_value (K:W.Frag)(vs:List V)(H:Hp)(Q:VK)(E:XK):Prop
 |mk (c:Pc) (p:Addr) (d:PyData) (v:V):vs=[.ref p,v]->SqT K H p c.vals->c.isStep=false->c.head.length≤100000->c.tail.length≤100000->Is H d v->smallD d=true->isValD c d=true->(∀H',Same H H'->Q (.bl true) H')->sp_is_value K vs H Q E
inductive sp_taken_way (K:W.Frag)(C:Addr)(vs:List V)(H:Hp)(Q:VK)(E:XK):Prop
 |mk (p:Addr) (t v rest:List Nat) (i:Nat) (must r:Bool) (ss:List (List Nat)) (e:Bool):vs=[.ref p,.bl must]->Cur H C p t i->i≤t.length->t.length≤100000->(∀c∈t,c < 128)->t.drop i=(if r then [47] else [])++(v++rest)->StpW ss e v->(ss=[]->e=r)->(must=true->r=true)->Stops frS rest->rest.head?≠some 47->(∀(u:V) (H':Hp),SameBut p H H'->Cur H' C p t (t.length - rest.length)->IsT H' (wayOf (r,ss,e)) u->Q u H')->sp_taken_way K C vs H Q E
inductive sp_taken_value (K:W.Frag)(C:Addr)(vs:List V)(H:Hp)(Q:VK)(E:XK):Prop
 |mk (p:Addr) (t w r:List Nat) (i:Nat) (o:Option (List Nat)):vs=[.ref p]->Cur H C p t i->i≤t.length->t.length≤100000->(∀c∈t,c < 128)->t.drop i=w++r->ValW o w->Stops frQ r->r.head?≠some 61->(∀H',SameBut p H H'->Cur H' C p t (i+w.length)->Q (otV o) H')->sp_taken_value K C vs H Q E
inductive sp_taken_mark (K:W.Frag)(C:Addr)(vs:List V)(H:Hp)(Q:VK)(E:XK):Prop
 |mk (p:Addr) (t w:List Nat) (i:Nat) (o:Option (List Nat)):vs=[.ref p]->Cur H C p t i->i≤t.length->t.length≤100000->(∀c∈t,c < 128)->t.drop i=w->MarW o w->(∀H',SameBut p H H'->Cur H' C p t t.length->Q (otV o) H')->sp_taken_mark K C vs H Q E
inductive sp_taken_filled_text (K:W.Frag)(C:Addr)(vs:List V)(H:Hp)(Q:VK)(E:XK):Prop
 |mk (p:Addr) (t fr s w r:List Nat) (i:Nat) (mo:Option Nat):vs=[.ref p,.str ⟨fr.toArray⟩,moV mo]->Cur H C p t i->i≤t.length->t.length≤100000->(∀c∈t,c < 128)->fr.length≤100->t.drop i=w++r->WrT fr s w->s≠[]->((Stops fr r∨mo=some s.length))->(∀m,mo=some m->s.length≤m)->(∀H',SameBut p H H'->Cur H' C p t (i+w.length)->Q (.str ⟨s.toArray⟩) H')->sp_taken_filled_text K C vs H Q E
inductive sp_is_pattern (K:W.Frag)(vs:List V)(H:Hp)(Q:VK)(E:XK):Prop
 |mk (cs:List Pc) (e:Bool) (v:V):vs=[v]->IsT H (ptD cs e) v->PtG cs e->(∀H',Same H H'->Q (.bl true) H')->sp_is_pattern K vs H Q E
inductive sp_read_piece (K:W.Frag)(vs:List V)(H:Hp)(Q:VK)(E:XK):Prop
 |mk (c:Pc) (t:List Nat):vs=[tV t]->PcW c t->t.length≤2000->(∀(v:V) (H':Hp),Same H H'->IsT H' (pcD c) v->Q v H')->sp_read_piece K vs H Q E
inductive sp_filled_steps (K:W.Frag)(vs:List V)(H:Hp)(Q:VK)(E:XK):Prop
 |mk (c:Pc) (p pz:Addr) (ws:List (List Nat×PyData)) (ys:List V) (ss:List (List Nat)):vs=[.ref p,.ref pz]->SqT K H p c.vals->c.head.length≤100000->c.tail.length≤100000->H pz=some (.lst ys)->VlsV H ws ys->ws.length≤100000->(∀w∈ws,smallD w.2=true)->fillS c ws=.ok ss->(∀(q:Addr) (H':Hp),Same H H'->H' q=some (.lst (ss.map tV))->Q (.ref q) H')->sp_filled_steps K vs H Q E
inductive sp_lead (K:W.Frag)(vs:List V)(H:Hp)(Q:VK)(E:XK):Prop
 |mk (l pw ps:Addr) (t:Rw) (ws:List V) (r e:Bool) (ss:List (List Nat)):vs=[.ref l,.ref pw]->H l=some (.lst ws)->TbV H [t] ws->PcsOk t.2.1->H pw=some (.tup [.bl r,.ref ps,.bl e])->H ps=some (.tup (ss.map tV))->ss.length≤500->(∀s∈ss,s.length≤100000)->fitR r e ss t=true->(∀(p l':Addr) (ys:List V) (H':Hp),H l'=none->Same H H'->H' p=some (.tup [tV t.1,.ref l'])->H' l'=some (.lst ys)->BndV H' l' (boundM t.2.1 ss) ys->Q (.ref p) H')->sp_lead K vs H Q E
inductive sp_taken_house (K:W.Frag)(C:Addr)(vs:List V)(H:Hp)(Q:VK)(E:XK):Prop
 |mk (p:Addr) (t w r:List Nat) (i:Nat) (o:Option (List Nat)):vs=[.ref p]->Cur H C p t i->i≤t.length->t.length≤100000->(∀c∈t,c < 128)->t.drop i=w++r->HouW o w->(o≠none->Stops [] r)->(o=none->¬ r.take 2=[47,47])->(∀H',SameBut p H H'->Cur H' C p t (i+w.length)->Q (otV o) H')->sp_taken_house K C vs H Q E
inductive sp_taken_question (K:W.Frag)(C:Addr)(vs:List V)(H:Hp)(Q:VK)(E:XK):Prop
 |mk (p:Addr) (t w rest:List Nat) (i:Nat) (qs:Option (List (List Nat×Option (List Nat)))):vs=[.ref p]->Cur H C p t i->i≤t.length->t.length≤100000->(∀c∈t,c < 128)->t.drop i=w++rest->QueW qs w->((rest=[]∨∃r,rest=35::r))->(∀(u:V) (H':Hp),SameBut p H H'->Cur H' C p t (t.length - rest.length)->IsT H' (qD qs) u->Q u H')->sp_taken_question K C vs H Q E
inductive sp_read_pattern (K:W.Frag)(vs:List V)(H:Hp)(Q:VK)(E:XK):Prop
 |mk (cs:List Pc) (e:Bool) (ws:List (List Nat)):vs=[tV (slT true ws e)]->PcWs cs ws->(∀w∈ws,w.length≤700)->PtG cs e->(∀(v:V) (H':Hp),Same H H'->IsT H' (ptD cs e) v->Q v H')->sp_read_pattern K vs H Q E
inductive sp_filled (K:W.Frag)(vs:List V)(H:Hp)(Q:VK)(E:XK):Prop
 |mk (cs:List Pc) (xs:List V) (p q pz:Addr) (cl:Bool) (ws:List (List Nat×PyData)) (ys:List V) (ss:List (List Nat)):vs=[.ref p,.ref pz]->SqT K H p [.ref q,.bl cl]->SqT K H q xs->PcAll K H cs xs->cs.length≤100->PcSz cs->H pz=some (.lst ys)->VlsV H ws ys->ws.length≤100000->(∀w∈ws,smallD w.2=true)->fillM cs ws=.ok ss->(∀(pw qw:Addr) (H':Hp),Same H H'->H' qw=some (.tup (ss.map tV))->H' pw=some (.tup [.bl true,.ref qw,.bl cl])->Q (.ref pw) H')->sp_filled K vs H Q E
inductive sp_read (K:W.Frag)(vs:List V)(H:Hp)(Q:VK)(E:XK):Prop
 |mk (x:Ad) (t:List Nat):vs=[.str ⟨t.toArray⟩]->t.length≤90000->(∀c∈t,c < 128)->x.Wf->RdW x t->(∀(u:V) (H':Hp),Same H H'->IsT H' x.data u->Q u H')->sp_read K vs H Q E
inductive sp_made (K:W.Frag)(vs:List V)(H:Hp)(Q:VK)(E:XK):Prop
 |mk (l lv:Addr) (T:List Rw) (ws:List V) (n:List Nat) (wz:List (List Nat×PyData)) (ys:List V) (t:Rw) (ss:List (List Nat)):vs=[.ref l,tV n,.ref lv]->H l=some (.lst ws)->TbV H T ws->(∀t∈T,PcsOk t.2.1)->H lv=some (.lst ys)->VlsV H wz ys->wz.length≤100000->(∀w∈wz,smallD w.2=true)->T.find? (fun t=>decide (t.1=n))=some t->fillM t.2.1 wz=.ok ss->(∀(pw qw:Addr) (H':Hp),Same H H'->H' qw=some (.tup (ss.map tV))->H' pw=some (.tup [.bl true,.ref qw,.bl t.2.2])->Q (.ref pw) H')->sp_made K vs H Q E
inductive sp_made_address (K:W.Frag)(vs:List V)(H:Hp)(Q:VK)(E:XK):Prop
 |mk (l lv:Addr) (T:List Rw) (ws:List V) (n:List Nat) (wz:List (List Nat×PyData)) (ys:List V) (x:Ad) (vb vq vm:V) (t:Rw) (ss:List (List Nat)):vs=[.ref l,vb,tV n,.ref lv,vq,vm]->IsT H x.data vb->H l=some (.lst ws)->TbV H T ws->(∀t∈T,PcsOk t.2.1)->H lv=some (.lst ys)->VlsV H wz ys->wz.length≤100000->(∀w∈wz,smallD w.2=true)->x.scheme≠[]->T.find? (fun t=>decide (t.1=n))=some t->fillM t.2.1 wz=.ok ss->(∀(p pw qw:Addr) (H':Hp),Same H H'->H' qw=some (.tup (ss.map tV))->H' pw=some (.tup [.bl true,.ref qw,.bl t.2.2])->H' p=some (.tup [tV x.scheme,otV x.house,itV x.door,.ref pw,vq,vm])->Q (.ref p) H')->sp_made_address K vs H Q E
inductive sp__law_same (K:W.Frag)(vs:List V)(H:Hp)(Q:VK)(E:XK):Prop
 |mk (l lv:Addr) (t:Rw) (ws ys:List V) (bs:List (List Nat×Vl)) (x:Ad) (vb vq:V) (qs:Option (List (List Nat×Option (List Nat)))) (mk:Option (List Nat)):vs=[.ref l,vb,.ref lv,vq,otV mk]->H l=some (.lst ws)->TbV H [t] ws->PcsOk t.2.1->PatOk t.2.1->(0 < t.2.1.length∧t.2.1.length≤5)->(gapsM t.2.1).Nodup->(∀n∈gapsM t.2.1,∀c∈n,isSg c=true)->(∀c∈t.1,isSg c=true)->IsT H x.data vb->x.Ok->x.scheme≠[]->H lv=some (.lst ys)->VlsV H (bs.map fun b=>(b.1,vlD b.2)) ys->GvA t.2.1 bs->(∀b∈bs,SmV b.2)->IsT H (qD qs) vq->QSm qs->MSm mk->(∀(p:Addr) (H':Hp),Same H H'->AdW H' p (stpsM t.2.1 bs) t.2.2 vq (otV mk)->Q (.ref p) H')->sp__law_same K vs H Q E
inductive sp_law (K:W.Frag)(vs:List V)(H:Hp)(Q:VK)(E:XK):Prop
 |mk (a:Addr) (ns:List Int):vs=[.ref a]->SqL K H a (ns.map V.int)->ns.length≤63->(∀H',Q (.bl true) H')->sp_law K vs H Q E
section
variable {H:Hp}{Q:VK}{E:XK}{K:W.Frag}
theorem DB {c:Nat}:tJ [.str ⟨[c].toArray⟩] H Q E↔c < 256∧Q (.str ⟨[126,hexd (c / 16),hexd (c % 16)].toArray⟩) H:=
 ⟨fun⟨_,e,h⟩=>by injection e with e;injection e with e;cases ar.mp e;exact h,fun h=>⟨c,rfl,h⟩⟩
theorem DC {c:Nat}:tK [.str ⟨[c].toArray⟩] H Q E↔c < 128∧Q (figV c) H:=
 ⟨fun⟨_,e,h⟩=>by injection e with e;injection e with e;cases ar.mp e;exact h,fun h=>⟨c,rfl,h⟩⟩
theorem DD {l:List Nat}:tL [.str ⟨l.toArray⟩] H Q E↔l.length≤1000∧(∀c∈l,c < 128)∧Q (signOfL l) H:=
 ⟨fun⟨_,e,h⟩=>by injection e with e;injection e with e;cases ar.mp e;exact h,fun h=>⟨l,rfl,h⟩⟩
theorem DE {l:List Nat}:fW [.str ⟨l.toArray⟩] H Q E↔l.length≤2000∧(∀c∈l,isSg c=true)∧∀H',Same H H'->Q (.str ⟨(wr l).toArray⟩) H':=
 ⟨fun⟨_,e,h⟩=>by injection e with e;injection e with e;cases ar.mp e;exact h,fun h=>⟨l,rfl,h⟩⟩
theorem c_sw {c:Nat}{r fr:List Nat}:tM [.str ⟨(c::r).toArray⟩,.str ⟨fr.toArray⟩] H Q E↔r.length≤1000∧(∀d∈c::r,d < 128)∧(c=126∨r=[])∧Q (swV fr (c::r)) H:=
 ⟨fun⟨_,_,_,e,h⟩=>by injection e with e e2;injection e with e;injection e2 with e2;injection e2 with e2;cases ar.mp e;cases ar.mp e2;exact h,fun h=>⟨c,r,fr,rfl,h⟩⟩
theorem DF {l fr:List Nat}:tN [.str ⟨l.toArray⟩,.str ⟨fr.toArray⟩] H Q E↔l.length≤2000∧(∀c∈l,c < 128)∧∀H',Same H H'->Q (undV (und fr l)) H':=
 ⟨fun⟨_,_,e,h⟩=>by injection e with e e2;injection e with e;injection e2 with e2;injection e2 with e2;cases ar.mp e;cases ar.mp e2;exact h,fun h=>⟨l,fr,rfl,h⟩⟩
end
section
variable {P:Program}{w:World}{K:W.Frag}{mg:Str->Option Value}{base:Heap}
seal PE PA PT PS PSs PG PI PF PO PW
local macro_rules|`(tactic| walk_at "rd")=>`(tactic| simp only[L2.start,map_cons,map_nil,length_cons,length_nil,Nat.reduceAdd,Nat.reduceSub,Nat.zero_add,replicate_succ,List.replicate_zero,L2.wR,L2.rd_C,L2.iv,L2.yh,L2.yg,L2.wS,L2.wU,L2.wV,L2.wW,L2.wX,L2.wY,L2.wZ,L2.wa,L2.wc,L2.rd_B,L2.wd,L2.we,L2.wg,L2.wj,L2.wk,L2.wl,L2.wm,L2.wn,L2.wo,L2.wp,L2.wq,L2.wt,L2.yj,L2.yk,L2.yl,L2.bP,L2.ym,L2.yn,L2.yo,L2.yp,L2.wu,L2.ww,L2.wx,L2.wy,L2.x6,L2.x8,L2.x9,L2.xA,L2.rd_I,L2.fh,L2.xB,L2.aX,L2.xC,L2.iw,L2.fi,L2.mO,L2.xD,L2.xE,L2.xF,L2.xG,L2.xH,L2.xI,L2.xJ,L2.mP,L2.xK,L2.az,L2.xL,L2.xi,L2.xj,L2.mV,L2.xk,L2.iy,L2.xm,L2.xn,L2.xo,L2.xp,L2.xq,L2.xr,L2.xt,L2.xu,L2.xv,L2.xw,L2.xx,L2.xy,L2.xz,L2.y0,L2.y6,L2.y8,L2.y9,L2.yA,L2.yB,L2.yC,L2.yD,L2.yE,L2.yF,L2.yG,L2.yH,L2.yI,L2.yJ,L2.yK,L2.yL,L2.yM,L2.yN,L2.yO,L2.yP,L2.yQ,L2.yR,L2.yS,L2.yV,L2.yT,L2.yU,L2.yW,L2.cx_K,L2.wE,L2.wF,L2.wG,L2.wH,L2.wJ,L2.cX,L2.wK,L2.wL,L2.wM,L2.wN,L2.wO,L2.yq,L2.wP,L2.xX,L2.xY,L2.xU,L2.xV,Option.getD_some,L2.xW,L2.xb,L2.rd_U,L2.xc,L2.xf,L2.yZ,L2.ya,L2.iz,L2.yc,L2.yd,L2.ye,L2.yf,L2.xM,L2.xN,L2.xO,List.getElem?_cons_zero,List.getElem?_cons_succ,List.set_cons_zero,List.set_cons_succ,nil_append,cons_append,append_nil,Option.some.injEq,exists_eq_left,exists_eq_left',true_and,and_true,L2.V.bl.injEq,L2.V.int.injEq,L2.V.str.injEq,L2.V.ref.injEq,List.cons.injEq,reduceCtorEq,false_and,and_false,exists_false,false_or,or_false,decide_eq_true_eq,Bool.not_true,Bool.not_false,↓reduceIte,if_true,if_false,not_true_eq_false,not_false_eq_true,decide_true,decide_false,Bool.false_eq_true,DB,DC,DD,DE,c_sw,DF,L2.nU,L2.zy,L2.zz,L2.A0,L2.A6,A7,L2.Ac,L2.Ae,L2.Ah,L2.Ai,L2.Al,L2.Am,L2.Aq,L2.Ar,L2.Ax,L2.Ay,L2.AA,L2.nu,L2.AC,L2.AB,L2.AE,L2.AF,L2.ny,L2.AG,L2.AI,L2.AJ,L2.AH,L2.Bd,L2.Bn,L2.Bo,L2.Bq,L2.Br,L2.Bs,L2.Bx,L2.Bz,L2.BA,L2.nu,L2.BC,L2.BD,L2.BE,L2.BF,L2.BG,L2.BB,L2.BH,L2.BI,L2.BJ,L2.BK,L2.oU,L2.oW,L2.BO,L2.om,L2.BY,L2.Cu,L2.Cy,L2.CA,L2.CB,L2.CG,L2.CK,L2.CL,L2.CM,L2.CN,L2.CH,L2.CI,L2.CJ,z8,z9,b7,aU,mm,zF,zP,List.drop_succ_cons,drop_zero,L2.vy,L2.vz,L2.w4,L2.w6,Bool.not_eq_true',decide_eq_false_iff_not])
local macro_rules|`(tactic| walk_at "c")=>`(tactic| exact⟨rfl,rfl,rfl,by decide +kernel,rfl,by decide +kernel,by decide +kernel⟩)
theorem DG:FnScope ["text","signs"] ["text","signs"] (defScope pp):=by walk_at "c"
theorem tO:FnScope ["sign","number"] ["sign"] (defScope q0):=by walk_at "c"
theorem DH:FnScope ["figure"] ["figure"] (defScope q8):=by walk_at "c"
theorem lD:FnScope ["number","place"] ["number"] (defScope qA):=by walk_at "c"
theorem DI:FnScope ["address"] ["address"] (defScope qB):=by walk_at "c"
theorem DJ:FnScope ["thing","count"] ["thing","count"] (defScope qC):=by walk_at "c"
theorem DK:FnScope ["thing"] ["thing"] (defScope qE):=by walk_at "c"
theorem lE:FnScope ["rooted","texts","ends","ahead","behind"] ["rooted","texts","ends"] (defScope qF):=by walk_at "c"
theorem DL:FnScope ["step"] ["step"] (defScope qG):=by walk_at "c"
theorem DM:FnScope ["pieces"] ["pieces"] (defScope qH):=by walk_at "c"
theorem DN:FnScope ["piece"] ["piece"] (defScope qI):=by walk_at "c"
theorem DO:FnScope ["gap"] ["gap"] (defScope qJ):=by walk_at "c"
theorem DP:FnScope ["piece"] ["piece"] (defScope qK):=by walk_at "c"
theorem DQ:FnScope ["piece"] ["piece"] (defScope qL):=by walk_at "c"
theorem tP:FnScope ["pattern","pieces"] ["pattern"] (defScope qM):=by walk_at "c"
theorem lF:FnScope ["entries","best","entry"] ["entries"] (defScope qO):=by walk_at "c"
theorem lG:FnScope ["table","name","entry_name","pattern"] ["table","name"] (defScope qP):=by walk_at "c"
theorem DR:FnScope ["self","text"] ["self","text"] (defScope dA):=by walk_at "c"
theorem DS:FnScope ["self"] ["self"] (defScope dB):=by walk_at "c"
theorem tQ:FnScope ["self","sign"] ["self"] (defScope dC):=by walk_at "c"
theorem DT:FnScope ["self","text"] ["self","text"] (defScope dD):=by walk_at "c"
theorem DU:FnScope ["door","cursor"] ["door","cursor"] (defScope qQ):=by walk_at "c"
theorem DV:FnScope ["_law_script","_law_k"] ["_law_script","_law_k"] (defScope qR):=by walk_at "c"
theorem bp:FnScope ["_law_cell","_law_many","_law_letters","_law_size","_law_spot","_law_found","_law_number","_law_name","_law_k","_law_place"] ["_law_cell","_law_many"] (defScope qS):=by walk_at "c"
theorem iO:FnScope ["_law_cell","_law_signs_here","_law_many","_law_found","_law_k"] ["_law_cell","_law_signs_here","_law_many"] (defScope qU):=by walk_at "c"
theorem cf:FnScope ["_law_cell","_law_many","_law_some","_law_number","_law_found","_law_k"] ["_law_cell","_law_many"] (defScope qV):=by walk_at "c"
theorem dR:FnScope ["_law_text","_law_figures","_law_found","_law_sign"] ["_law_text"] (defScope qW):=by walk_at "c"
theorem DW:FnScope ["_law_one","_law_other"] ["_law_one","_law_other"] (defScope qX):=by walk_at "c"
theorem DX:FnScope ["thing"] ["thing"] (defScope qY):=by walk_at "c"
theorem lH:FnScope ["figures","high","low"] ["figures"] (defScope qZ):=by walk_at "c"
theorem DY:FnScope ["text"] ["text"] (defScope qa):=by walk_at "c"
theorem DZ:FnScope ["thing"] ["thing"] (defScope qc):=by walk_at "c"
theorem E1:FnScope ["pieces"] ["pieces"] (defScope qd):=by walk_at "c"
theorem lI:FnScope ["pattern","count","pieces","more"] ["pattern","count"] (defScope qe):=by walk_at "c"
theorem lJ:FnScope ["part","step","head","tail"] ["part","step"] (defScope qf):=by walk_at "c"
theorem E2:FnScope ["text"] ["text"] (defScope qg):=by walk_at "c"
theorem E3:FnScope ["text"] ["text"] (defScope qh):=by walk_at "c"
theorem E4:FnScope ["gap","steps"] ["gap","steps"] (defScope qi):=by walk_at "c"
theorem E5:FnScope ["gap","value"] ["gap","value"] (defScope qj):=by walk_at "c"
theorem E6:FnScope ["self","signs"] ["self","signs"] (defScope dE):=by walk_at "c"
theorem E7:FnScope ["_law_script","_law_start","_law_many"] ["_law_script","_law_start","_law_many"] (defScope qk):=by walk_at "c"
theorem E8:FnScope ["_law_cell","_law_signs_here"] ["_law_cell","_law_signs_here"] (defScope ql):=by walk_at "c"
theorem iP:FnScope ["_law_cell","_law_found","_law_k","_law_more"] ["_law_cell"] (defScope qm):=by walk_at "c"
theorem tR:FnScope ["_law_cell","_law_found"] ["_law_cell"] (defScope qo):=by walk_at "c"
theorem E9:FnScope ["piece","free"] ["piece","free"] (defScope qp):=by walk_at "c"
theorem Ea:FnScope ["thing"] ["thing"] (defScope qr):=by walk_at "c"
theorem Eb:FnScope ["thing"] ["thing"] (defScope qt):=by walk_at "c"
theorem tS:FnScope ["house","door","behind"] ["house","door"] (defScope qu):=by walk_at "c"
theorem Ec:FnScope ["way"] ["way"] (defScope qv):=by walk_at "c"
theorem Ed:FnScope ["name","value"] ["name","value"] (defScope qz):=by walk_at "c"
theorem Ee:FnScope ["mark"] ["mark"] (defScope r0):=by walk_at "c"
theorem Ef:FnScope ["head","tail"] ["head","tail"] (defScope r8):=by walk_at "c"
theorem tT:FnScope ["pieces","names"] ["pieces"] (defScope r9):=by walk_at "c"
theorem Eg:FnScope ["piece","step"] ["piece","step"] (defScope rA):=by walk_at "c"
theorem iQ:FnScope ["pattern","values","names","name","value"] ["pattern","values"] (defScope rB):=by walk_at "c"
theorem lK:FnScope ["cursor","door"] ["cursor"] (defScope rC):=by walk_at "c"
theorem lL:FnScope ["cursor","figures","sign"] ["cursor"] (defScope rD):=by walk_at "c"
theorem bW:FnScope ["_law_cells_here","_law_signs_here","_law_whole","_law_head","_law_scheme","_law_house","_law_door","_law_rooted","_law_steps","_law_ends","_law_mark"] ["_law_cells_here","_law_signs_here","_law_whole"] (defScope rE):=by walk_at "c"
theorem lM:FnScope ["_law_cell","_law_name","_law_head","_law_tail"] ["_law_cell","_law_name"] (defScope rF):=by walk_at "c"
theorem dS:FnScope ["_law_script","_law_start","_law_some","_law_rest","_law_found","_law_k","_law_name","_law_value_here"] ["_law_script","_law_start","_law_some","_law_rest"] (defScope rG):=by walk_at "c"
theorem dU:FnScope ["text","free","signs","place","width","sign"] ["text","free"] (defScope gW):=by walk_at "c"
theorem Ei:FnScope ["question"] ["question"] (defScope rH):=by walk_at "c"
theorem Ej:FnScope ["thing"] ["thing"] (defScope rJ):=by walk_at "c"
theorem lO:FnScope ["pattern","way","steps","pieces"] ["pattern","way"] (defScope rK):=by walk_at "c"
theorem Ek:FnScope ["thing"] ["thing"] (defScope rL):=by walk_at "c"
theorem tU:FnScope ["cursor","scheme"] ["cursor"] (defScope rM):=by walk_at "c"
theorem lP:FnScope ["cursor","free","most","signs","allowed"] ["cursor","free","most"] (defScope gX):=by walk_at "c"
theorem cD:FnScope ["_law_script","_law_start","_law_names_here","_law_head","_law_some","_law_texts","_law_k","_law_cell"] ["_law_script","_law_start","_law_names_here"] (defScope rN):=by walk_at "c"
theorem tW:FnScope ["address","scheme"] ["address"] (defScope rO):=by walk_at "c"
theorem El:FnScope ["things"] ["things"] (defScope rP):=by walk_at "c"
theorem tX:FnScope ["head","inside","tail","named"] ["head","inside","tail"] (defScope rQ):=by walk_at "c"
theorem iR:FnScope ["pattern","way","values","place","piece"] ["pattern","way"] (defScope rR):=by walk_at "c"
theorem Em:FnScope ["gap","value"] ["gap","value"] (defScope rS):=by walk_at "c"
theorem cg:FnScope ["cursor","must_be_rooted","rooted","steps","ends","step"] ["cursor","must_be_rooted"] (defScope rT):=by walk_at "c"
theorem En:FnScope ["cursor"] ["cursor"] (defScope rV):=by walk_at "c"
theorem Eo:FnScope ["cursor"] ["cursor"] (defScope rW):=by walk_at "c"
theorem tY:FnScope ["cursor","free","most","text"] ["cursor","free","most"] (defScope gY):=by walk_at "c"
theorem Ep:FnScope ["thing"] ["thing"] (defScope hqq):=by walk_at "c"
theorem lQ:FnScope ["text","opened","closed"] ["text"] (defScope rX):=by walk_at "c"
theorem tZ:FnScope ["piece","values","named"] ["piece","values"] (defScope rY):=by walk_at "c"
theorem lR:FnScope ["table","way","entries","best"] ["table","way"] (defScope rZ):=by walk_at "c"
theorem Er:FnScope ["cursor"] ["cursor"] (defScope rc):=by walk_at "c"
theorem iS:FnScope ["cursor","name","pairs"] ["cursor"] (defScope re):=by walk_at "c"
theorem iT:FnScope ["text","texts","ends","pieces"] ["text"] (defScope rf):=by walk_at "c"
theorem lS:FnScope ["pattern","values","steps","piece"] ["pattern","values"] (defScope rg):=by walk_at "c"
theorem cR:FnScope ["text","cursor","scheme","house","door","way","question","mark"] ["text"] (defScope rh):=by walk_at "c"
theorem Es:FnScope ["table","name","values"] ["table","name","values"] (defScope ri):=by walk_at "c"
theorem Et:FnScope ["table","base","name","values","question","mark"] ["table","base","name","values","question","mark"] (defScope gZ):=by walk_at "c"
theorem tf:FnScope ["_law_table","_law_base","_law_values_here","_law_question_here","_law_mark","_law_found"] ["_law_table","_law_base","_law_values_here","_law_question_here","_law_mark"] (defScope rj):=by walk_at "c"
theorem bF:FnScope ["_law_script","_law_names_here","_law_base","_law_text","_law_some","_law_table","_law_values_here","_law_question_here","_law_mark","_law_one","_law_at","_law_value_here","_law_others","_law_other"] ["_law_script"] (defScope rk):=by walk_at "c"
theorem dW (g:G K mg):g.cO.Ok P w base 1 sp_made_of:=by
 refine g.cO.F.ok DG (fun vs H Q E h=>?_) (fun ld A ad s H vs Q E hr h=>?_)
 ·obtain⟨x,y,rfl,_⟩:=h;rfl
 ·obtain⟨x,y,rfl,hx,k⟩:=h;refine⟨_,(aB (aE (aP (dk (K:=K) rfl rfl) rfl g.dQ PyProof.Rows.boot_all (a8 (cmp1 ["signs"] [1] (ip (pv 0)) bX (fb cI (pv 0) (pv 1) (by with_unfolding_all rfl))) a9)))),?_⟩;walk_at "rd";intro p hp;refine mS (z:=x) (aI hx) hp (fun c=>.bl (decide (c∈y.cps.toList))) (fun c hc H' R hR=>?_) (fun H' sm dl=>?_)
  ·walk_at "rd";exact hR H' (Same.refl _)
  ·refine iz.mpr ⟨x.cps.toList.map fun c=>decide (c∈y.cps.toList),SqL.of (by rw[dl,map_map];rfl),?_⟩;rw[all_map];exact k H' sm
theorem Eu (g:G K mg):g.jm.Ok P w base 1 tJ:=by
 refine g.jm.F.ok tO (fun vs H Q E h=>?_) (fun dl A ad s H vs Q E hr h=>?_)
 ·obtain⟨c,rfl,_⟩:=h;rfl
 ·obtain⟨c,rfl,hc,k⟩:=h;refine⟨_,(aC (sx 1 tO.nd (aP iq rfl g.iM iu (a8 (pv 0) a9)))
   (aB (aE (aD (ah (K:=K) rfl) (aD (ah (K:=K) rfl) aH (px K (aM (v:=gd) rfl g.f9 ⟨_,rfl⟩) (aD ai (pv 1) aA))) (px K (aM (v:=gd) rfl g.f9 ⟨_,rfl⟩) (aD aT (pv 1) aA)))))),?_⟩
  walk_at "rd";exact⟨⟨by decide,by decide⟩,hexd (c / 16),mX,fz (by lia) (by lia),by decide,by decide,hexd (c % 16),mX,fz (by lia) (by lia),by decide,k⟩
theorem tj (g:G K mg):g.gf.Ok P w base 1 tK:=by
 refine g.gf.F.ok DH (fun vs H Q E h=>?_) (fun dl A ad s H vs Q E hr h=>?_)
 ·obtain⟨c,rfl,_⟩:=h;rfl
 ·obtain⟨a,rfl,ha,k⟩:=h;refine⟨_,(aC (aJ (bv cI (pv 0) (aM (v:=gd) rfl g.f9 ⟨_,rfl⟩) (by with_unfolding_all rfl))
    (aB (aE (aq (K:=K) rfl PySem.F.plainAttrs_str PySem.F.slot_str_index PySem.F.type_str_index mK (aM (v:=gd) rfl g.f9 ⟨_,rfl⟩) (a8 (pv 0) a9)))) aK)
   (aC (aJ (bv cI (pv 0) (aM (v:=rq) rfl g.l6 ⟨_,rfl⟩) (by with_unfolding_all rfl))
    (aB (aE (aq (K:=K) rfl PySem.F.plainAttrs_str PySem.F.slot_str_index PySem.F.type_str_index mK (aM (v:=rq) rfl g.l6 ⟨_,rfl⟩) (a8 (pv 0) a9)))) aK)
   (aB (aE aS)))),?_⟩
  walk_at "rd";refine ite2 (fun h=>?_) (fun h=>?_)
  ·obtain⟨e1,e2⟩:=yt a ha h;obtain⟨n,hn⟩:=Option.isSome_iff_exists.mp e2;rw[hn] at e1;rw[du hn] at k;exact⟨n,[],e1,k⟩
  ·refine ite2 (fun h2=>?_) (fun h2=>?_)
   ·obtain⟨e1,e2⟩:=yu a ha h h2;obtain⟨n,hn⟩:=Option.isSome_iff_exists.mp e2;rw[hn] at e1;rw[du hn] at k;exact⟨n,[],e1,k⟩
   ·rw[j5 (yv a ha h h2)] at k;exact k
theorem Ev (g:G K mg):g.jn.Ok P w base 1 sp_sign_numbered:=by
 refine g.jn.F.ok lD (fun vs H Q E h=>?_) (fun ld A dl s H vs Q E hr h=>?_)
 ·obtain⟨c,rfl,_⟩:=h;rfl
 ·obtain⟨n,rfl,k⟩:=h;refine⟨_,(aC (aJ (PW.pt (am (ptm de (pv 0) (aM (v:=ro) rfl g.l4 ⟨_,rfl⟩)) (am (ptm bT (pv 0) (aM (v:=Dj) rfl g.si ⟨_,rfl⟩)) (ax (ptm aO (pv 0) (aM (v:=rp) rfl g.l5 ⟨_,rfl⟩))))))
    (aB (aE aS)) aK)
   (aC (sx 1 lD.nd (aD fZ (pv 0) (aM (v:=ro) rfl g.l4 ⟨_,rfl⟩)))
   (aC (aJ (ptm bT (pv 0) (aM (v:=rp) rfl g.l5 ⟨_,rfl⟩))
    (aB (sx 1 lD.nd (aD fZ (pv 1) aA))) aK)
   (aB (aE (px K (aM (v:=rm) rfl g.kz ⟨_,rfl⟩) (pv 1))))))),?_⟩
  walk_at "rd";refine ite2 (fun h=>?_) (fun h=>?_)
  ·rw[j6 (fun q=>by have:=bh q;lia)] at k;exact k
  ·refine ite2 (fun h1=>?_) (fun h1=>?_)
   ·rw[j6 (fun q=>by have:=bh q;lia)] at k;exact k
   ·refine ite2 (fun h2=>?_) (fun h2=>?_)
    ·rw[j6 (fun q=>by have:=bh q;lia)] at k;exact k
    ·have hs:isSg n=true:=zH (by lia) (by lia) (by lia);rw[zG hs] at k;have ad:=yw n (by lia) hs;refine ite2 (fun h3=>?_) (fun h3=>?_)
     ·rw[if_pos (show 37 < n by lia)] at ad;refine⟨n,mY,?_,k⟩;rw[show (n:Int) - 32 - 1=((n - 32 - 1:Nat):Int) by lia];exact aG ad
     ·rw[if_neg (show ¬ 37 < n by lia)] at ad;refine⟨n,mY,?_,k⟩;rw[show (n:Int) - 32=((n - 32 - 0:Nat):Int) by lia];exact aG ad
theorem tm (g:G K mg):g.gh.Ok P w base 1 (sp_is_whole K):=by
 refine g.gh.F.ok DI (fun vs H Q E h=>?_) (fun dl A ad s H vs Q E hr h=>?_)
 ·obtain⟨p,l,r,rfl,_⟩:=h;rfl
 ·obtain⟨p,l,r,rfl,hp,k⟩:=h;refine⟨_,(aB (aE (pcm bB (px K (pv 0) (aM (v:=rz) rfl g.l7 ⟨_,rfl⟩)) aH))),?_⟩;walk_at "rd";refine⟨_,_,.inr hp,zu,?_⟩;walk_at "rd";rw[show decide ((⟨l.toArray⟩:Str)=⟨([]:List Nat).toArray⟩)=decide (l=[]) from decide_eq_decide.mpr ar];exact k
theorem iU (g:G K mg):g.dF.Ok P w base 1 sp_is_tuple:=by
 refine g.dF.F.ok DJ (fun vs H Q E h=>?_) (fun dl A ad s H vs Q E hr h=>?_)
 ·obtain⟨d,v,n,rfl,_⟩:=h;rfl
 ·obtain⟨d,v,n,rfl,hv,k⟩:=h;refine⟨_,(aB (aE (aj (aP bM rfl g.bE bK (a8 (pv 0) (a8 (bG (v:=.ty "tuple") rfl g.bn bw rfl) a9))) (ao (pcm aO (aP (ac (K:=K) rfl) rfl g.aZ PySem.boot_len (a8 (pv 0) a9)) (pv 1)))))),?_⟩;cases hv with
  |lst hp r=>walk_at "rd";simp only[fu hp];walk_at "rd";exact k
  |dic hp=>walk_at "rd";simp only[xl hp];walk_at "rd";exact ite2 (fun z=>absurd z (by decide)) (fun _=>k)
  |tup hp r=>walk_at "rd";simp only[dm hp];walk_at "rd";refine⟨_,.inr (SqT.of hp),?_⟩;rw[<- r.length];exact k
  |_=>walk_at "rd";exact k
theorem Ew (g:G K mg):g.jo.Ok P w base 1 sp_is_whole_number:=by
 refine g.jo.F.ok DK (fun vs H Q E h=>?_) (fun dl A ad s H vs Q E hr h=>?_)
 ·obtain⟨d,v,rfl,_⟩:=h;rfl
 ·obtain⟨d,v,rfl,hv,k⟩:=h;refine⟨_,(aB (aE (aj (aP bM rfl g.bE bK (a8 (pv 0) (a8 (bG (v:=.ty "int") rfl g.cB cG rfl) a9))) (ao (dZ (aP bM rfl g.bE bK (a8 (pv 0) (a8 (bG (v:=.ty "bool") rfl g.lB mM rfl) a9)))))))),?_⟩;cases hv with
  |lst hp r=>walk_at "rd";simp only[fu hp];walk_at "rd";exact k
  |tup hp r=>walk_at "rd";simp only[dm hp];walk_at "rd";exact k
  |dic hp=>walk_at "rd";exact⟨"dict",by simp only[kindV,hp],ite2 (fun z=>absurd z (by decide)) (fun _=>k)⟩
  |_=>walk_at "rd";exact k
theorem Ex (g:G K mg):g.jp.Ok P w base 1 (sp_slashed K):=by
 refine g.jp.F.ok lE (fun vs H Q E h=>?_) (fun dl A ad s H vs Q E hr h=>?_)
 ·obtain⟨r,e,p,ts,rfl,_⟩:=h;rfl
 ·obtain⟨r,e,p,ts,rfl,hp,hl,k⟩:=h;refine⟨_,(ae (sx 3 lE.nd (b8 (aR (pv 0)) aH aH))
   (ae (sx 4 lE.nd (b8 (PW.pt (cS (aR (pv 2)) (cj (ptm bT (aP (ac (K:=K) rfl) rfl g.aZ PySem.boot_len (a8 (pv 1) a9)) aA)))) aH aH))
   (aB (aE (aD (ah (K:=K) rfl) (aD (ah (K:=K) rfl) (pv 3) (aq (K:=K) rfl PySem.F.plainAttrs_str PySem.F.slot_str_join PySem.F.type_str_join (di (K:=K) rfl) aH (a8 (pv 1) a9))) (pv 4)))))),?_⟩
  have c1:Str.ofString "/"=⟨[47].toArray⟩:=by decide +kernel
  rw[c1];walk_at "rd";refine⟨fun σ H'=>H'=H∧σ=[some (.bl r),some (.ref p),some (.bl e),some (.str ⟨(if r then [47] else []:List Nat).toArray⟩),none],?_,?_⟩
  ·cases r with
   |true=>exact ite2 (fun _=>⟨rfl,rfl⟩) (fun z=>absurd rfl z)
   |false=>exact ite2 (fun z=>by cases z) (fun _=>⟨rfl,rfl⟩)
  rintro σ H' ⟨rfl,rfl⟩;walk_at "rd";refine⟨fun σ H''=>H''=H'∧σ=[some (.bl r),some (.ref p),some (.bl e),some (.str ⟨(if r then [47] else []:List Nat).toArray⟩),some (.str ⟨(if e && !ts.isEmpty then [47] else []:List Nat).toArray⟩)],?_,?_⟩
  ·cases e with
   |false=>exact ite2 (fun z=>by cases z) (fun _=>⟨rfl,rfl⟩)
   |true=>
    refine ite2 (fun _=>⟨_,.inl hp,?_⟩) (fun z=>absurd rfl z);rw[length_map];cases ts with
    |nil=>exact ite2 (fun z=>absurd z (by decide)) (fun _=>⟨rfl,rfl⟩)
    |cons t ts=>exact ite2 (fun _=>⟨rfl,rfl⟩) (fun z=>absurd (by simp) z)
  rintro σ H'' ⟨rfl,rfl⟩;walk_at "rd";have hj:=nQ (sep:=47) ts;have h1:(if r=true then [47] else ([]:List Nat)).length≤1:=by split <;> simp
  have h2:(if (e && !ts.isEmpty)=true then [47] else ([]:List Nat)).length≤1:=by split <;> simp
  refine⟨ts.map fun l=>⟨l.toArray⟩,by rw[map_map];exact hp,?_,?_⟩
  ·rw[nT,length_map];have:(ts.map List.length).sum+ts.length≤(joinT 47 ts).length+1:=hj;lia
  rw[show (⟨#[47]⟩:Str)=⟨[47].toArray⟩ from rfl,nO];walk_at "rd";refine⟨aI (by lia),aI (by rw[length_append];lia),?_⟩;rw[append_assoc];exact k
theorem iV (g:G K mg):g.dG.Ok P w base 1 sp_is_dot:=by
 refine g.dG.F.ok DL (fun vs H Q E h=>?_) (fun dl A ad s H vs Q E hr h=>?_)
 ·obtain⟨s,rfl,_⟩:=h;rfl
 ·obtain⟨s,rfl,k⟩:=h;refine⟨_,(aB (aE (ck (pcm aO (pv 0) (aM (v:=Dr) rfl g.sw ⟨_,rfl⟩)) (ao (pcm aO (pv 0) (aM (v:=k_UP) rfl g.c_UP ⟨_,rfl⟩)))))),?_⟩;have d1:Str.ofString ".."=⟨sUp.toArray⟩:=by decide +kernel
  have d2:Str.ofString "."=⟨sStay.toArray⟩:=by decide +kernel
  walk_at "rd";rw[d1,d2];simp only[ar];by_cases h2:s=sStay
  ·rw[if_pos h2];rw[show isDot s=true by simp[isDot,h2]] at k;exact k
  ·rw[if_neg h2];rw[show isDot s=decide (s=sUp) by simp[isDot,h2]] at k;exact k
theorem Ey (g:G K mg):g.jq.Ok P w base 1 (sp_rests_stand_last K):=by
 refine g.jq.F.ok DM (fun vs H Q E h=>?_) (fun Cl A dl s H vs Q E hr h=>?_)
 ·obtain⟨cs,xs,q,rfl,_⟩:=h;rfl
 ·obtain⟨cs,xs,q,rfl,hq,hx,hl,k⟩:=h;refine⟨_,(aB (aE (aP (dk (K:=K) rfl rfl) rfl g.dQ PyProof.Rows.boot_all (a8 (cmp1 [] [] (cu (K:=K) rfl (ay bi (pv 0) b9 (au (cT cU aA)))) bX (pcm bB (px K (pv 0) aA) aH)) a9)))),?_⟩;walk_at "rd";have BT:=hx.length;refine⟨_,hq,fun p1 H1 s1 h1=>?_⟩;rw[pT] at h1;refine⟨⟨_,.of h1⟩,fun p2 n2=>?_⟩;refine oO (xs:=xs.dropLast) (fun i ys H'=>Same H1 H'∧ys=((cs.dropLast.take i).map fun c=>!c.isRest).map V.bl) (aI (by rw[length_dropLast];lia)) ⟨av n2,rfl⟩ (fun i ys H2 hJ=>.of (hJ.1 _ _ h1)) (fun i x ys H2 T ad hJ h2 hT=>?_) (fun ys H2 hJ h2=>?_)
  ·obtain⟨s2,rfl⟩:=hJ;have hi:=(List.getElem?_eq_some_iff.mp ad).1;rw[length_dropLast] at hi;rw[List.dropLast_eq_take,List.getElem?_take_of_lt (by lia)] at ad;obtain⟨c,b,hc,rfl,mt⟩:=hx.get ad;walk_at "rd";refine⟨_,_,.inr ((s1.trans s2).tup mt),c.at0,fi.mpr ?_⟩;rw[dz];refine hT _ H2 h2 ⟨cx n2 s2,?_⟩;have ld:cs.dropLast[i]?=some c:=by rw[List.dropLast_eq_take,List.getElem?_take_of_lt (by lia)];exact hc
   rw[take_add_one,ld,map_append,map_append];rfl
  ·obtain⟨s2,rfl⟩:=hJ;walk_at "rd";refine⟨_,.of h2,?_⟩;have e:(((cs.dropLast.take xs.dropLast.length).map fun c=>!c.isRest).all id)=restsL cs:=by
    unfold restsL;rw[length_dropLast,BT,<- length_dropLast,take_length,all_map];rfl
   rw[e];exact k H2 (s1.trans s2)
theorem lT (g:G K mg):g.eI.Ok P w base 1 (sp_is_gap K):=by
 refine g.eI.F.ok DN (fun vs H Q E h=>?_) (fun cdv A outer s H vs Q E hr h=>?_)
 ·obtain⟨c,p,rfl,_⟩:=h;rfl
 ·obtain⟨c,p,rfl,hp,k⟩:=h;refine⟨_,(aB (aE (pcm bB (px K (pv 0) aA) aH))),?_⟩;walk_at "rd";refine⟨_,_,.inr hp,c.at0,?_⟩;refine L2.fi.mpr ?_;rw[jR];exact k
theorem lU (g:G K mg):g.eJ.Ok P w base 1 (sp_name_of K):=by
 refine g.eJ.F.ok DO (fun vs H Q E h=>?_) (fun dl A ad s H vs Q E hr h=>?_)
 ·obtain⟨c,p,rfl,_⟩:=h;rfl
 ·obtain⟨c,p,rfl,hp,hc,k⟩:=h;refine⟨_,(aB (aE (b8 (ptm aO (px K (pv 0) aA) aH) (px K (pv 0) aA) (px K (pv 0) aA)))),?_⟩;walk_at "rd";refine⟨_,_,.inr hp,c.at0,?_⟩;refine L2.aX.mpr ⟨_,rfl,?_⟩;rw[cK];cases c with
  |step s=>cases hc
  |part h n t=>exact ite2 (fun _=>⟨_,_,.inr hp,aG (j:=2) rfl,k⟩) (fun z=>absurd rfl z)
  |num n=>exact ite2 (fun z=>by cases z) (fun _=>⟨_,_,.inr hp,aG (j:=1) rfl,k⟩)
  |word n=>exact ite2 (fun z=>by cases z) (fun _=>⟨_,_,.inr hp,aG (j:=1) rfl,k⟩)
  |gap n=>exact ite2 (fun z=>by cases z) (fun _=>⟨_,_,.inr hp,aG (j:=1) rfl,k⟩)
  |rest n=>exact ite2 (fun z=>by cases z) (fun _=>⟨_,_,.inr hp,aG (j:=1) rfl,k⟩)
theorem iW (g:G K mg):g.dH.Ok P w base 1 (sp_head_of K):=by
 refine g.dH.F.ok DP (fun vs H Q E h=>?_) (fun dl A ad s H vs Q E hr h=>?_)
 ·obtain⟨c,p,rfl,_⟩:=h;rfl
 ·obtain⟨c,p,rfl,hp,k⟩:=h;refine⟨_,(aB (aE (b8 (ptm aO (px K (pv 0) aA) aH) (px K (pv 0) aA) aH))),?_⟩;walk_at "rd";refine⟨_,_,.inr hp,c.at0,?_⟩;refine L2.aX.mpr ⟨_,rfl,?_⟩;rw[cK];cases c with
  |part h n t=>exact ite2 (fun _=>⟨_,_,.inr hp,aG (j:=1) rfl,k⟩) (fun z=>absurd rfl z)
  |_=>exact ite2 (fun z=>by cases z) (fun _=>k)
theorem iX (g:G K mg):g.dI.Ok P w base 1 (sp_tail_of K):=by
 refine g.dI.F.ok DQ (fun vs H Q E h=>?_) (fun dl A ad s H vs Q E hr h=>?_)
 ·obtain⟨c,p,rfl,_⟩:=h;rfl
 ·obtain⟨c,p,rfl,hp,k⟩:=h;refine⟨_,(aB (aE (b8 (ptm aO (px K (pv 0) aA) aH) (px K (pv 0) aA) aH))),?_⟩;walk_at "rd";refine⟨_,_,.inr hp,c.at0,?_⟩;refine L2.aX.mpr ⟨_,rfl,?_⟩;rw[cK];cases c with
  |part h n t=>exact ite2 (fun _=>⟨_,_,.inr hp,aG (j:=3) rfl,k⟩) (fun z=>absurd rfl z)
  |_=>exact ite2 (fun z=>by cases z) (fun _=>k)
theorem Ez (g:G K mg):g.jr.Ok P w base 1 (sp_has_rest K):=by
 refine g.jr.F.ok tP (fun vs H Q E h=>?_) (fun ld A ad s H vs Q E hr h=>?_)
 ·obtain⟨cs,xs,p,q,e,rfl,_⟩:=h;rfl
 ·obtain⟨cs,xs,p,q,e,rfl,hp,hq,hx,hn,k⟩:=h;refine⟨_,(aC (sx 1 tP.nd (px K (pv 0) (aM (v:=cN) rfl g.cA ⟨_,rfl⟩)))
   (aB (aE (aj (pcm bT (aP (ac (K:=K) rfl) rfl g.aZ PySem.boot_len (a8 (pv 1) a9)) aA) (ao (pcm aO (px K (px K (pv 1) (cT cU aA)) aA) aH)))))),?_⟩
  walk_at "rd";refine⟨_,_,.inr hp,aG (j:=0) rfl,?_⟩;walk_at "rd";refine⟨xs,.inr hq,?_⟩;have hl:=hx.length;by_cases h0:cs=[]
  ·subst h0;refine ite2 (fun z=>?_) (fun _=>k);rw[hl] at z;simp at z
  obtain⟨c,hc⟩:∃c,cs.getLast?=some c:=⟨_,List.getLast?_eq_some_getLast h0⟩;have hr:hasRest cs=c.isRest:=by unfold hasRest;rw[hc]
  obtain⟨v,hv,pc,rfl,dl⟩:=hx.last hc;refine ite2 (fun _=>?_) (fun z=>absurd (show (0:Int) < (xs.length:Int) by rw[hl];have:=length_pos_iff.mpr h0;lia) z);refine⟨_,_,.inr hq,hv,?_⟩;walk_at "rd";refine⟨_,_,.inr dl,c.at0,?_⟩;refine L2.aX.mpr ?_;rw[dz,<- hr];exact k
theorem EA (g:G K mg):g.js.Ok P w base 1 (sp_worth_most K):=by
 refine g.js.F.ok lF (fun vs H Q E h=>?_) (fun mt A dl s H vs Q E hr h=>?_)
 ·obtain⟨l,v,rfl,_⟩:=h;rfl
 ·obtain⟨l,v,rfl,hl,k⟩:=h;refine⟨_,(aC (sx 1 lF.nd (px K (pv 0) aA))
   (aC (bO PassesOwn.never rfl (cY (K:=K) rfl (ay (fw (K:=K) rfl) (pv 0) (au aA) b9)) (pgn 2 lF.nd)
   (aB bN))
   (aB (aE (pv 1))))),?_⟩
  walk_at "rd";refine⟨_,_,.inl (.of hl),aG (j:=0) rfl,_,.of hl,fun p1 H1 n1 s1 ad=>⟨⟨_,.of ad⟩,?_⟩⟩;have ad:H1 p1=some (.lst []):=ad;refine ix (xs:=[]) (fun i σ H'=>Same H1 H'∧∃v2:Option V,σ=[some (.ref l),some v,v2]) ⟨Same.refl _,none,rfl⟩ (fun i σ H' _ h=>.of (h.1 _ _ ad)) ?_ ?_
  ·rintro i x σ H2 ld _;cases ld
  ·rintro σ H2 ⟨s2,v2,rfl⟩;walk_at "rd";exact k H2 (s1.trans s2)
theorem EB (g:G K mg):g.jt.Ok P w base 1 (sp_pattern_named K):=by
 refine g.jt.F.ok lG (fun vs H Q E h=>?_) (fun Fn A ld s H vs Q E hr h=>?_)
 ·obtain⟨l,T,ws,n,t,rfl,_⟩:=h;rfl
 ·obtain⟨l,T,ws,n,t0,rfl,hl,hT,dl,k⟩:=h;refine⟨_,(aC (bO PassesOwn.never rfl (cY (K:=K) rfl (pv 0)) (dq (n:=2) (K:=K) rfl rfl (bS (pgn 2 lG.nd) (bS (pgn 3 lG.nd) cm)))
   (aB (aJ (ptm aO (pv 2) (pv 1))
    (aB (aE (pv 3))) aK)))
   (aB bN)),?_⟩
  walk_at "rd";have Cl:=hT.length;refine⟨⟨_,.of hl⟩,?_⟩;refine ix (xs:=ws) (fun i σ H'=>Same H H'∧∃v2 v3:Option V,σ=[some (.ref l),some (tV n),v2,v3]∧(T.drop i).find? (fun t=>decide (t.1=n))=some t0) ⟨Same.refl _,none,none,rfl,dl⟩ (fun i σ H' _ h=>.of (h.1 _ _ hl)) ?_ ?_
  ·rintro i v σ H1 hv ⟨s1,v2,v3,rfl,ad⟩;obtain⟨t,ht,a',p',rfl,BT,mt⟩:=hT.get hv;rw[A8 ht,List.find?_cons] at ad;walk_at "rd";refine⟨a',_,rfl,.of (s1 _ _ BT),rfl,_,_,rfl,_,_,rfl,rfl,?_⟩;walk_at "rd";refine ite2 (fun h=>?_) (fun h=>⟨s1,_,_,⟨rfl,rfl⟩,by rw[decide_eq_false (fun z=>h (by rw[z]))] at ad;exact ad⟩);rw[decide_eq_true (ar.mp h)] at ad;cases ad;exact k p' H1 s1 (mt.mono s1.toT)
  rintro σ H1 ⟨s1,v2,v3,rfl,ad⟩;rw[Cl,List.drop_length] at ad;cases ad
theorem EC (g:G K mg):FnOk P w K mg base CX0 1 g.gt g.gu ["self","text"] (sp_Cursor___init__ K g.aV):=by
 refine g.sE.ok DR (fun vs H Q E h=>?_) (fun dl A ad s H vs Q E hr h=>?_)
 ·obtain⟨p,dx,t,rfl,_⟩:=h;rfl
 ·obtain⟨p,dx,t,rfl,hp,k⟩:=h;refine⟨_,(aC (fe (pv 0) (pv 1) rfl)
   (aB (fe (pv 0) aA rfl))),?_⟩
  walk_at "rd";refine⟨p,_,dx,_,rfl,hp,g.aW,g.c9,by show 0 < 1000;decide,?_⟩;refine⟨p,_,dx,_,rfl,aL,g.aW,g.bR,by show 1 < 1000;decide,?_⟩;have h:Str.ofString "text" ≠ Str.ofString "place" := by decide +kernel
  rw[uL];refine k _ bg ⟨dx,?_⟩;rw[aL];simp only[putF,if_neg h];rfl
theorem tp (g:G K mg):FnOk P w K mg base CX0 1 g.gv g.gw ["self"] (sp_Cursor_at_end K g.aV):=by
 refine g.sG.ok DS (fun vs H Q E h=>?_) (fun ld A dl s H vs Q E hr h=>?_)
 ·obtain⟨p,t,i,rfl,_⟩:=h;rfl
 ·obtain⟨p,t,i,rfl,⟨dx,hp⟩,hl,k⟩:=h;refine⟨_,(aB (aE (pcm aO (bC (pv 0) rfl) (aP (ac (K:=K) rfl) rfl g.aZ PySem.boot_len (a8 (bC (pv 0) rfl) a9))))),?_⟩;have ad:Cur H g.aV p t i:=⟨dx,hp⟩;walk_at "rd";refine bz ad g.aW g.bR (cZ ad g.aW g.c9 ?_);walk_at "rd";refine⟨aI hl,?_⟩;rw[show decide ((i:Int)=(t.length:Int))=decide (i=t.length) from decide_eq_decide.mpr (by lia)];exact k
theorem fX (g:G K mg):FnOk P w K mg base CX0 1 g.gx g.gy ["self"] (sp_Cursor_take K g.aV):=by
 refine g.sH.ok tQ (fun vs H Q E h=>?_) (fun ld A dl s H vs Q E hr h=>?_)
 ·obtain⟨p,t,i,c,rfl,_⟩:=h;rfl
 ·obtain⟨p,t,i,c,rfl,⟨dx,hp⟩,hc,hl,k⟩:=h;refine⟨_,(aC (sx 1 tQ.nd (px K (bC (pv 0) rfl) (bC (pv 0) rfl)))
   (aC (fe (pv 0) (aD (ah (K:=K) rfl) (bC (pv 0) rfl) aA) rfl)
   (aB (aE (pv 1))))),?_⟩
  have ad:Cur H g.aV p t i:=⟨dx,hp⟩;walk_at "rd";refine cZ ad g.aW g.c9 (bz ad g.aW g.bR ?_);walk_at "rd";refine⟨c,aI hl,aG hc,?_⟩;refine bz ad g.aW g.bR ?_;walk_at "rd";exact o0 ad g.aW g.bR (i+1) (by lia) fun H' sb h=>k H' sb h
theorem bd {K:W.Frag}{C p:Addr}{H:Hp}{Q:VK}{E:XK}{t w r:List Nat}{i:Nat}(h:Cur H C p t i)(hi:i≤t.length)(hl:t.length≤100000)(hd:t.drop i=w++r)(k:∀H',SameBut p H H'->Cur H' C p t (i+w.length)->i+w.length≤t.length->t.drop (i+w.length)=r->Q (.bl true) H'):sp_Cursor_passes K C [.ref p,.str ⟨w.toArray⟩] H Q E:=
 ⟨p,t,w,i,rfl,h,hi,hl,fun _ H' s c=>k H' s c (by have:=congrArg List.length hd;rw[length_drop,length_append] at this;lia) (by rw[<- drop_drop,hd,drop_left]),fun z=>absurd (by rw[hd,take_left]) z⟩
theorem lV {K:W.Frag}{C p:Addr}{H:Hp}{Q:VK}{E:XK}{t w:List Nat}{i:Nat}(h:Cur H C p t i)(hi:i≤t.length)(hl:t.length≤100000)(hn:¬ (t.drop i).take w.length=w)(k:Q (.bl false) H):sp_Cursor_passes K C [.ref p,.str ⟨w.toArray⟩] H Q E:=
 ⟨p,t,w,i,rfl,h,hi,hl,fun z=>absurd z hn,fun _=>k⟩
theorem ci {K:W.Frag}{C p:Addr}{H:Hp}{Q:VK}{E:XK}{t r:List Nat}{i c:Nat}(h:Cur H C p t i)(hi:i≤t.length)(hl:t.length≤100000)(hd:t.drop i=r)(hn:r.head?≠some c)(k:Q (.bl false) H):sp_Cursor_passes K C [.ref p,.str ⟨[c].toArray⟩] H Q E:=
 lV h hi hl (fun z=>hn (by rw[hd] at z;cases r with|nil=>cases z|cons d r=>rw[(List.cons.inj z).1];rfl)) k
theorem bq (g:G K mg):FnOk P w K mg base CX0 1 g.gz g.hC ["self","text"] (sp_Cursor_passes K g.aV):=by
 refine g.sI.ok DT (fun vs H Q E h=>?_) (fun ld A dl s H vs Q E hr h=>?_)
 ·obtain⟨p,t,w,i,rfl,_⟩:=h;rfl
 ·obtain⟨p,t,w,i,rfl,⟨dx,hp⟩,hi,hl,k1,k2⟩:=h;refine⟨_,(aC (aJ (ak (aR (aq (K:=K) rfl PySem.F.plainAttrs_str PySem.F.slot_str_startswith PySem.F.type_str_startswith AD (bC (pv 0) rfl) (a8 (pv 1) (a8 (bC (pv 0) rfl) a9)))))
    (aB (aE bA)) aK)
   (aC (fe (pv 0) (aD (ah (K:=K) rfl) (bC (pv 0) rfl) (aP (ac (K:=K) rfl) rfl g.aZ PySem.boot_len (a8 (pv 1) a9))) rfl)
   (aB (aE bA)))),?_⟩
  have ad:Cur H g.aV p t i:=⟨dx,hp⟩;walk_at "rd";refine cZ ad g.aW g.c9 ⟨rfl,bz ad g.aW g.bR ?_⟩;walk_at "rd";have e:=jH t w i hi;rw[aU,aU] at e;rw[e];by_cases h:(t.drop i).take w.length=w
  ·rw[decide_eq_true h,if_neg (by decide)];refine bz ad g.aW g.bR ?_;walk_at "rd";exact⟨aI (by have:=congrArg List.length h;rw[length_take,length_drop] at this;lia),o0 ad g.aW g.bR (i+w.length) (by lia) fun H' sb h'=>k1 h H' sb h'⟩
  ·rw[decide_eq_false h,if_pos rfl];exact k2 h
theorem tq (g:G K mg):g.gi.Ok P w base 1 (sp_door_with K g.aV):=by
 refine g.gi.F.ok DU (fun vs H Q E h=>?_) (fun BT A dl s H vs Q E hr h=>?_)
 ·obtain⟨p,t,i,c,n,rfl,_⟩:=h;rfl
 ·obtain⟨p,t,i,c,n,rfl,ad,hl,hc,ld,mt,hn,k⟩:=h;refine⟨_,(aB (aE (aD (ah (K:=K) rfl) (aD bf (pv 0) aA) (bD jG rfl g.cB cG (a8 (px K (bC (pv 1) rfl) (bC (pv 1) rfl)) a9))))),?_⟩;walk_at "rd";refine⟨.inl ⟨by lia,by lia⟩,cZ ad g.aW g.c9 (bz ad g.aW g.bR ?_)⟩;walk_at "rd";refine⟨c,aI hl,aG hc,_,by show 1≤640;decide,oC c (by lia) ld,?_⟩;rw[show (n:Int) * 10+((c - 48:Nat):Int)=((n * 10+(c - 48):Nat):Int) by lia];exact k
theorem be (g:G K mg):g.bQ.Ok P w base 1 (sp__law_cell_at K):=by
 refine g.bQ.F.ok DV (fun vs H Q E h=>?_) (fun dl A ad s H vs Q E hr h=>?_)
 ·obtain⟨a,ns,k,rfl,_⟩:=h;rfl
 ·obtain⟨a,ns,i,rfl,hS,k⟩:=h;refine⟨_,(aC (aJ (ptm de (pv 1) (aP (ac (K:=K) rfl) rfl g.aZ PySem.boot_len (a8 (pv 0) a9)))
    (aB (aE (px K (pv 0) (pv 1)))) aK)
   (aB (aE aA))),?_⟩
  walk_at "rd";refine⟨ns.map V.int,.inl hS,ite2 (fun h=>?_) (fun h=>?_)⟩
  ·rw[length_map] at h;exact⟨ns.map V.int,_,.inl hS,zO (by lia),k⟩
  ·rw[length_map] at h;rw[List.getD_eq_getElem?_getD,List.getElem?_eq_none (by lia)] at k;exact k
theorem ED (g:G K mg):g.ju.Ok P w base 1 (sp__law_names K):=by
 refine g.ju.F.ok bp (fun vs H Q E h=>?_) (fun FF A Fr s H vs Q E hr h=>?_)
 ·obtain⟨c,m,rfl,_⟩:=h;rfl
 ·obtain⟨c,m,rfl,hm,k⟩:=h;refine⟨_,(aC (sx 2 bp.nd aH)
   (aC (sx 3 bp.nd (aD (aQ (K:=K)) aA (aD aT (pv 0) aA)))
   (aC (sx 4 bp.nd (aD aT (aD ai (pv 0) aA) (pv 3)))
   (aC (sx 5 bp.nd (aw a9))
   (aC (bO PassesOwn.never rfl (bu rfl g.bo (a8 (pv 1) a9)) (pgn 6 bp.nd)
   (aC (sx 7 bp.nd aH)
   (ae (bO PassesOwn.never rfl (bu rfl g.bo (a8 (pv 3) a9)) (pgn 8 bp.nd)
   (aC (sx 9 bp.nd (aD (aQ (K:=K)) (aD (aQ (K:=K)) (aD ai (pv 0) (aD (aQ (K:=K)) aA (aD bf (aD bf aA (pv 8)) (pv 8)))) (aD bf aA (pv 8))) (aD bf (pv 6) (bD ff rfl g.cB cG (a8 (pcm aO (pv 8) (pv 4)) a9)))))
   (aB (sx 7 bp.nd (aD (aQ (K:=K)) (pv 7) (px K (pv 2) (aD aT (pv 9) aA)))))))
   (aB (bH (aq (K:=K) rfl PySem.F.plainAttrs_list PySem.F.slot_list_append PySem.F.type_list_append bU (pv 5) (a8 (pv 7) a9)))))))
   (aB (aE (pv 5)))))))),?_⟩
  have eL:Str.ofString "abcdefghijklmnopqrstuvwxyz"=⟨smaL.toArray⟩:=by unfold smaL;simp
  rw[eL];walk_at "rd";refine⟨by decide,⟨by decide,by decide⟩,by lia,by decide,fun p H1 n1 s1 e1=>⟨by lia,by lia,?_⟩⟩;rw[Int.toNat_natCast];obtain⟨sz,Fx,FE,FD⟩:∃sz:Nat,1+c % 8=(sz:Int)∧1≤sz∧sz≤8:=⟨(1+c % 8).toNat,by lia,by lia,by lia⟩;rw[Fx];obtain⟨ad,ha,FC⟩:∃a:Nat,c / 8 % (sz:Int)=(a:Int)∧a < sz:=by have h1:=Int.emod_nonneg (c / 8) (show (sz:Int)≠0 by lia);have h2:=Int.emod_lt_of_pos (c / 8) (show 0 < (sz:Int) by lia);exact⟨(c / 8 % (sz:Int)).toNat,by lia,by lia⟩
  rw[ha];obtain⟨X,hX⟩:∃X:Int,X=c / (64+9 * (ad:Int) * (ad:Int))+5 * (ad:Int):=⟨_,rfl⟩;refine cq (fun i σ H'=>∃(ns:List (List Nat)) (v6 v7 v8 v9:Option V),σ=[some (.int c),some (.int (m:Int)),some (tV smaL),some (.int (sz:Int)),some (.int (ad:Int)),some (.ref p),v6,v7,v8,v9]∧ns.length=i∧(∀n∈ns,0 < n.length∧n.length≤8∧n.all isSma=true)∧(∀(k:Nat) (n:List Nat),ns[k]?=some n->NmAt X ad k n)∧Same H H'∧H' p=some (.lst (ns.map tV))) ⟨[],none,none,none,none,rfl,rfl,by simp,(fun k n h=>by cases h),s1,e1⟩ ?_ ?_
  ·rintro i σ H2 hi ⟨ns,v6,v7,v8,v9,rfl,hl,ld,mt,s2,e2⟩;walk_at "rd";refine⟨fun σ H3=>H3=H2∧∃(l:List Nat) (v8 v9:Option V),l.length=sz∧NmAt X ad i l∧l.all isSma=true∧σ=[some (.int c),some (.int (m:Int)),some (tV smaL),some (.int (sz:Int)),some (.int (ad:Int)),some (.ref p),some (.int (0+(i:Int))),some (tV l),v8,v9],?_,?_⟩
   ·refine⟨by lia,by lia,?_⟩;rw[Int.toNat_natCast];refine cq (fun j σ H3=>H3=H2∧∃(l:List Nat) (v8 v9:Option V),l.length=j∧(ad < j->NmAt X ad i l)∧l.all isSma=true∧σ=[some (.int c),some (.int (m:Int)),some (tV smaL),some (.int (sz:Int)),some (.int (ad:Int)),some (.ref p),some (.int (0+(i:Int))),some (tV l),v8,v9]) ⟨rfl,[],_,_,rfl,(fun z=>absurd z (by lia)),rfl,rfl⟩ ?_ (fun σ H3 ⟨h1,l,v8,v9,h2,h3,h4,h5⟩=>⟨h1,l,v8,v9,h2,h3 FC,h4,h5⟩);rintro j σ H3 hj ⟨rfl,l,v8,v9,Cl,BT,Fn,rfl⟩;have hb:0 < 64+9 * (0+(j:Int)) * (0+(j:Int))∧64+9 * (0+(j:Int)) * (0+(j:Int)) < 1073741824:=by
     have h0:0≤(0+(j:Int)) * (0+(j:Int)):=Int.mul_nonneg (by lia) (by lia);have h1:(0+(j:Int)) * (0+(j:Int))≤8 * 8:=Int.mul_le_mul (by lia) (by lia) (by lia) (by lia);rw[Int.mul_assoc];lia
    walk_at "rd";have FB:CMul (0+(i:Int)) (if 0+(j:Int)=(ad:Int) then 1 else 0):=.inl ⟨by lia,by lia⟩;have dl:0+(j:Int)=(ad:Int)->(c / (64+9 * (0+(j:Int)) * (0+(j:Int)))+5 * (0+(j:Int))+(0+(i:Int)) * if 0+(j:Int)=(ad:Int) then 1 else 0)=X+(i:Int):=fun z=>by rw[if_pos z,Int.mul_one,hX,z];lia
    obtain⟨d,hd,FA⟩:=BV (c / (64+9 * (0+(j:Int)) * (0+(j:Int)))+5 * (0+(j:Int))+(0+(i:Int)) * if 0+(j:Int)=(ad:Int) then 1 else 0);refine⟨.inl ⟨by decide,by decide⟩,.inr ⟨by lia,by lia⟩,hb,.inl ⟨by decide,by decide⟩,FB,by decide,d,by decide +kernel,hd,aI (by lia),l++[d],_,_,by rw[length_append,length_singleton,Cl],fun z=>?_,by rw[List.all_append,Fn];simp[FA],rfl,rfl,rfl⟩;by_cases ej:j=ad
    ·rw[dl (by lia)] at hd;exact⟨d,by rw[List.getElem?_append_right (by lia),Cl,ej,Nat.sub_self];rfl,hd⟩
    ·exact (BT (by lia)).app
   rintro σ H3 ⟨rfl,l,v8,v9,Cl,BT,Fn,rfl⟩;walk_at "rd";refine⟨⟨_,.of e2⟩,_,e2,by rw[length_map];exact Nat.lt_of_le_of_lt (show ns.length≤26 by lia) (by decide),ns++[l],_,_,_,_,⟨rfl,rfl,rfl,rfl⟩,by rw[length_append,length_singleton,hl],fun n hn=>?_,fun k n hk=>?_,cx n1 s2,by rw[aL,map_append];rfl⟩
   ·rcases mem_append.mp hn with z|z
    ·exact ld n z
    ·rw[mem_singleton.mp z];exact⟨by lia,by lia,Fn⟩
   ·by_cases Fz:k < ns.length
    ·rw[List.getElem?_append_left Fz] at hk;exact mt k n hk
    ·rw[List.getElem?_append_right (by lia)] at hk;have Fy:k - ns.length=0:=by
      cases hh:k - ns.length with
      |zero=>rfl
      |succ z=>rw[hh] at hk;cases hk
     rw[Fy] at hk;cases hk;rw[show k=i by lia];exact BT
  ·rintro σ H2 ⟨ns,v6,v7,v8,v9,rfl,hl,ld,mt,s2,e2⟩;walk_at "rd";exact k ns p H2 hl ld (BX mt (by lia)) s2 e2
theorem EE (g:G K mg):g.jv.Ok P w base 1 sp__law_run:=by
 refine g.jv.F.ok iO (fun vs H Q E h=>?_) (fun BT A ad s H vs Q E hr h=>?_)
 ·obtain⟨c,gg,m,rfl,_⟩:=h;rfl
 ·obtain⟨c,gg,m,rfl,mt,ld,hm,k⟩:=h;refine⟨_,(aC (sx 3 iO.nd aH)
   (aC (bO PassesOwn.never rfl (bu rfl g.bo (a8 (pv 2) a9)) (pgn 4 iO.nd)
   (aB (sx 3 iO.nd (aD (ah (K:=K) rfl) (pv 3) (px K (pv 1) (aD aT (aD ai (pv 0) (aD (ah (K:=K) rfl) (aD bf (aD bf aA (pv 4)) (pv 4)) aA)) (aP (ac (K:=K) rfl) rfl g.aZ PySem.boot_len (a8 (pv 1) a9))))))))
   (aB (aE (pv 3))))),?_⟩
  walk_at "rd";refine⟨by lia,by lia,?_⟩;rw[Int.toNat_natCast];refine cq (fun i σ H'=>H'=H∧∃(l:List Nat) (v4:Option V),σ=[some (.int c),some (tV gg),some (.int (m:Int)),some (tV l),v4]∧l.length=i∧∀x∈l,x∈gg) ⟨rfl,[],none,rfl,rfl,fun x hx=>by cases hx⟩ ?_ ?_
  ·rintro i σ H1 hi ⟨rfl,l,v4,rfl,hl,hs⟩;have hb:0 < 5 * (0+(i:Int)) * (0+(i:Int))+1∧5 * (0+(i:Int)) * (0+(i:Int))+1 < 1073741824:=by
    have h0:0≤(0+(i:Int)) * (0+(i:Int)):=Int.mul_nonneg (by lia) (by lia);have h1:(0+(i:Int)) * (0+(i:Int))≤100 * 100:=Int.mul_le_mul (by lia) (by lia) (by lia) (by lia);rw[Int.mul_assoc];lia
   obtain⟨d,hd,dl⟩:=me gg (c / (5 * (0+(i:Int)) * (0+(i:Int))+1)) (gg.length:Int) (by lia) (by lia);walk_at "rd";refine⟨.inl ⟨by decide,by decide⟩,.inr ⟨by lia,by lia⟩,hb,aI (by lia),by lia,d,aI (by lia),dl,aI (by lia),l++[d],_,⟨rfl,rfl⟩,by rw[length_append,length_singleton,hl],fun x hx=>?_⟩;rcases mem_append.mp hx with z|z
   ·exact hs x z
   ·rw[mem_singleton.mp z];exact hd
  ·rintro σ H1 ⟨rfl,l,v4,rfl,hl,hs⟩;walk_at "rd";exact k l hl hs
theorem cE (g:G K mg):g.ba.Ok P w base 1 sp__law_any:=by
 refine g.ba.F.ok cf (fun vs H Q E h=>?_) (fun ld A ad s H vs Q E hr h=>?_)
 ·obtain⟨c,m,rfl,_⟩:=h;rfl
 ·obtain⟨c,m,rfl,hm,k⟩:=h;refine⟨_,(aC (sx 2 cf.nd aH)
   (aC (sx 3 cf.nd (aD (ah (K:=K) rfl) (aD aT (pv 0) aA) aA))
   (aC (sx 4 cf.nd aH)
   (aC (bO PassesOwn.never rfl (bu rfl g.bo (a8 (pv 1) a9)) (pgn 5 cf.nd)
   (aC (sx 3 cf.nd (aD aT (aD bf (pv 3) aA) aA))
   (aB (sx 4 cf.nd (aD (ah (K:=K) rfl) (pv 4) (px K (pv 2) (aD aT (aD ai (pv 3) aA) (aP (ac (K:=K) rfl) rfl g.aZ PySem.boot_len (a8 (pv 2) a9)))))))))
   (aB (aE (pv 4))))))),?_⟩
  have eS:Str.ofString " !\"#$&'()*+,-./0123456789:;<=>?@ABCDEFGHIJKLMNOPQRSTUVWXYZ[\\]^_`abcdefghijklmnopqrstuvwxyz{|}~"=⟨SG.toArray⟩:=by decide +kernel
  rw[eS];walk_at "rd";refine⟨by decide,by lia,by lia,?_⟩;rw[Int.toNat_natCast];refine cq (fun i σ H'=>H'=H∧∃(l:List Nat) (n:Int) (v5:Option V),σ=[some (.int c),some (.int (m:Int)),some (tV SG),some (.int n),some (tV l),v5]∧l.length=i∧∀x∈l,isSg x=true) ⟨rfl,[],_,none,rfl,rfl,fun x hx=>by cases hx⟩ ?_ ?_
  ·rintro i σ H1 hi ⟨rfl,l,n,v5,rfl,hl,hs⟩;obtain⟨d,hd,dl⟩:=me SG (n * 48271 % 2147483647 / 64) (SG.length:Int) (by decide) (by decide);walk_at "rd";refine⟨.inr ⟨by decide,by decide⟩,by decide,⟨by decide,by decide⟩,by decide,by decide,d,by decide,dl,aI (by lia),l++[d],_,_,⟨rfl,rfl,rfl⟩,by rw[length_append,length_singleton,hl],fun x hx=>?_⟩;rcases mem_append.mp hx with z|z
   ·exact hs x z
   ·rw[mem_singleton.mp z];exact mW.mp hd
  ·rintro σ H1 ⟨rfl,l,n,v5,rfl,hl,hs⟩;walk_at "rd";exact k l hl hs
theorem lW (g:G K mg):g.eK.Ok P w base 1 sp__law_written:=by
 refine g.eK.F.ok dR (fun vs H Q E h=>?_) (fun mt A ad s H vs Q E hr h=>?_)
 ·obtain⟨l,rfl,_⟩:=h;rfl
 ·obtain⟨l,rfl,hl,hn,k⟩:=h;refine⟨_,(aC (sx 1 dR.nd aH)
   (aC (sx 2 dR.nd aH)
   (aC (bO PassesOwn.never rfl (ip (pv 0)) (pgn 3 dR.nd)
   (aB (aJ (bv cI (pv 3) aH (by with_unfolding_all rfl))
    (aB (sx 2 dR.nd (aD (aQ (K:=K)) (pv 2) (pv 3)))) (aB (sx 2 dR.nd (aD (aQ (K:=K)) (aD (aQ (K:=K)) (aD (aQ (K:=K)) (pv 2) aH) (px K (pv 1) (aD ai (aP iq rfl g.iM iu (a8 (pv 3) a9)) aA))) (px K (pv 1) (aD aT (aP iq rfl g.iM iu (a8 (pv 3) a9)) aA))))))))
   (aB (aE (pv 2)))))),?_⟩
  have eP:Str.ofString "abcdefghijklmnopqrstuvwxyzABCDEFGHIJKLMNOPQRSTUVWXYZ0123456789-_."=⟨plS.toArray⟩:=(gT _).symm;rw[eP];walk_at "rd";refine xP (z:=⟨l.toArray⟩) (fun i σ H'=>H'=H∧∃v,σ=[some (tV l),some (.str (Str.ofString "0123456789abcdef")),some (tV (wr (l.take i))),v]) ⟨rfl,none,rfl⟩ ?_ ?_
  ·rintro i c σ H' hc ⟨rfl,v,rfl⟩;have hc:l[i]?=some c:=hc;have ld:=hl c (mem_of_getElem? hc);have l1:=bh ld;have et:wr (l.take (i+1))=wr (l.take i)++wr1 c:=by
    rw[take_add_one,hc,zJ];simp[wr]
   have dl:(wr (l.take i)).length≤300:=by have h1:=bV (l.take i);rw[length_take] at h1;lia
   rw[et];walk_at "rd";refine ite2 (fun h=>?_) (fun h=>?_)
   ·rw[show wr1 c=[c] from if_pos ((gJ (by lia)).mp h)];exact⟨aI (by lia),_,rfl,rfl⟩
   ·rw[show wr1 c=[126,hexd (c / 16),hexd (c % 16)] from if_neg fun z=>h ((gJ (by lia)).mpr z)];refine⟨aI (by lia),⟨by decide,by decide⟩,hexd (c / 16),by decide,fz (by lia) (by lia),aI (by rw[length_append];simp;lia),by decide,hexd (c % 16),by decide,fz (by lia) (by lia),aI (by rw[length_append,length_append];simp;lia),_,?_,rfl⟩;simp
  ·rintro σ H' ⟨rfl,v,rfl⟩;walk_at "rd";rw[take_length];exact k
theorem EF (g:G K mg):g.jw.Ok P w base 1 (sp__law_unlike K):=by
 refine g.jw.F.ok DW (fun vs H Q E h=>?_) (fun FC A Fn s H vs Q E hr h=>?_)
 ·obtain⟨p,p',ss,dl,e,vq,vm,Fx,Fy,rfl,_⟩:=h;rfl
 ·obtain⟨p,p',ss,dl,e,vq,vm,Fx,Fy,rfl,⟨a0,a1,a2,pw,qs,hp,mt,Cl⟩,⟨b0,b1,b2,FA,Fz,BT,ad,ld⟩,hl,FB,k⟩:=h;refine⟨_,(aC (aJ (PW.pt (am (ptm bB (aP (ac (K:=K) rfl) rfl g.aZ PySem.boot_len (a8 (px K (px K (pv 0) aA) aA) a9)) (aP (ac (K:=K) rfl) rfl g.aZ PySem.boot_len (a8 (px K (px K (pv 1) aA) aA) a9))) (am (ptm (bx hr.units) (px K (px K (pv 0) aA) aA) (px K (px K (pv 1) aA) aA)) (ax (ptm (bx hr.units) (px K (px K (pv 0) aA) aA) (px K (px K (pv 1) aA) aA))))))
    (aB (aE (aw (a8 (cT cU aA) a9)))) aK)
   (aB (aE (cmp1 ["_law_one","_law_other"] [0,1] (bu rfl g.bo (a8 (aP (ac (K:=K) rfl) rfl g.aZ PySem.boot_len (a8 (px K (px K (pv 0) aA) aA) a9)) a9)) (fk (ptm bB (px K (px K (px K (pv 1) aA) aA) (pv 0)) (px K (px K (px K (pv 2) aA) aA) (pv 0)))) (pv 0))))),?_⟩
  walk_at "rd";refine⟨_,_,.inr (.of hp),aG (j:=3) rfl,az.mpr ⟨_,_,.inr (.of mt),aG (j:=1) rfl,cX.mpr ⟨_,.inr (.of Cl),_,_,.inr (.of BT),aG (j:=3) rfl,az.mpr ⟨_,_,.inr (.of ad),aG (j:=1) rfl,cX.mpr ⟨_,.inr (.of ld),iw.mpr ⟨_,rfl,ite2 (fun z=>?_) (fun _=>?_)⟩⟩⟩⟩⟩⟩
  ·rw[length_map,length_map,hl] at z;simp at z
  have eb:∀b:Bool,(!PyData.eqv (.bool b) (.bool b))=false:=fun b=>by cases b <;> decide
  refine⟨_,_,.inr (.of hp),aG (j:=3) rfl,az.mpr ⟨_,_,.inr (.of mt),aG (j:=0) rfl,_,_,.inr (.of BT),aG (j:=3) rfl,az.mpr ⟨_,_,.inr (.of ad),aG (j:=0) rfl,.bool true,.bool true,.bl _,.bl _,by decide,by decide,_,rfl,ite2 (fun z=>absurd z (by rw[eb];decide)) (fun _=>?_)⟩⟩⟩;refine⟨_,_,.inr (.of hp),aG (j:=3) rfl,az.mpr ⟨_,_,.inr (.of mt),aG (j:=2) rfl,_,_,.inr (.of BT),aG (j:=3) rfl,az.mpr ⟨_,_,.inr (.of ad),aG (j:=2) rfl,.bool e,.bool e,.bl _,.bl _,by cases e <;> decide,by cases e <;> decide,_,rfl,ite2 (fun z=>absurd z (by rw[eb];decide)) (fun _=>?_)⟩⟩⟩
  refine⟨_,_,.inr (.of hp),aG (j:=3) rfl,az.mpr ⟨_,_,.inr (.of mt),aG (j:=1) rfl,cX.mpr ⟨_,.inr (.of Cl),_,rfl,by rw[length_map];lia,by rw[length_map];lia,fun p0 n0=>?_⟩⟩⟩;rw[Int.toNat_natCast,length_map];refine Cr (fun k=>!decide (ss[k]?=dl[k]?)) (fun k=>V.int (0+(k:Int))) (aI (by lia)) n0 (fun i hi H1 R s1 hR=>?_) (fun i hi _ H1 T s1 hT=>?_) (fun H1 s1 e1=>k p0 H1 s1 e1)
  ·have x1:(ss.map tV)[i]?=some (tV ss[i]):=by rw[List.getElem?_map,List.getElem?_eq_getElem hi];rfl
   have Fr:i < dl.length:=by lia
   have x2:(dl.map tV)[i]?=some (tV dl[i]):=by rw[List.getElem?_map,List.getElem?_eq_getElem Fr];rfl
   have hR:=hR H1 (Same.refl _);rw[List.getElem?_eq_getElem hi,List.getElem?_eq_getElem Fr] at hR;walk_at "rd";refine⟨_,_,.inr (.of (s1 _ _ hp)),aG (j:=3) rfl,az.mpr ⟨_,_,.inr (.of (s1 _ _ mt)),aG (j:=1) rfl,az.mpr ⟨_,_,.inr (.of (s1 _ _ Cl)),by rw[Int.zero_add];exact aG x1,_,_,.inr (.of (s1 _ _ BT)),aG (j:=3) rfl,az.mpr ⟨_,_,.inr (.of (s1 _ _ ad)),aG (j:=1) rfl,az.mpr ⟨_,_,.inr (.of (s1 _ _ ld)),by rw[Int.zero_add];exact aG x2,fi.mpr ⟨_,rfl,?_⟩⟩⟩⟩⟩⟩;have e:decide ((⟨ss[i].toArray⟩:Str)=⟨dl[i].toArray⟩)=decide (some ss[i]=some dl[i]):=by rw[decide_eq_decide,ar];exact⟨fun z=>by rw[z],fun z=>Option.some.inj z⟩
   rw[e];exact hR
  ·walk_at "rd";exact hT H1 (Same.refl _)
theorem iY (g:G K mg):g.dJ.Ok P w base 2 sp_is_text:=by
 refine g.dJ.F.ok DX (fun vs H Q E h=>?_) (fun dl A ad s H vs Q E hr h=>?_)
 ·obtain⟨d,v,rfl,_⟩:=h;rfl
 ·obtain⟨d,v,rfl,hv,hs,k⟩:=h;refine⟨_,(aB (aE (aj (aP bM rfl g.bE bK (a8 (pv 0) (a8 (bG (v:=.ty "str") rfl g.cC cH rfl) a9))) (ao (aF g.cO (dW g) hr rfl (a8 (pv 0) (a8 (aM (v:=rm) rfl g.kz ⟨_,rfl⟩) a9))))))),?_⟩;cases hv with
  |lst hp r=>walk_at "rd";simp only[fu hp];walk_at "rd";exact k H (Same.refl _)
  |tup hp r=>walk_at "rd";simp only[dm hp];walk_at "rd";exact k H (Same.refl _)
  |dic hp=>walk_at "rd";exact⟨"dict",by simp only[kindV,hp],ite2 (fun z=>absurd z (by decide)) (fun _=>k H (Same.refl _))⟩
  |str x=>walk_at "rd";refine⟨x,_,rfl,cw hs,fun H' sm=>?_⟩;simp only[zZ];exact k H' sm
  |_=>walk_at "rd";exact k H (Same.refl _)
theorem tw (g:G K mg):g.gj.Ok P w base 2 tL:=by
 refine g.gj.F.ok lH (fun vs H Q E h=>?_) (fun dl A ad s H vs Q E hr h=>?_)
 ·obtain⟨c,rfl,_⟩:=h;rfl
 ·obtain⟨l,rfl,hl,ha,k⟩:=h;refine⟨_,(aC (aJ (ptm bB (aP (ac (K:=K) rfl) rfl g.aZ PySem.boot_len (a8 (pv 0) a9)) aA)
    (aB (aE aS)) aK)
   (aC (sx 1 lH.nd (aF g.gf (tj g) hr rfl (a8 (px K (pv 0) aA) a9)))
   (aC (sx 2 lH.nd (aF g.gf (tj g) hr rfl (a8 (px K (pv 0) aA) a9)))
   (aC (aJ (PW.pt (am (ptm bL (pv 1) aS) (ax (ptm bL (pv 2) aS))))
    (aB (aE aS)) aK)
   (aB (aE (aF g.jn (Ev g) hr rfl (a8 (aD (ah (K:=K) rfl) (aD bf (pv 1) aA) (pv 2)) a9)))))))),?_⟩
  walk_at "rd";have hz:l.length≤sizeLine:=aI (by lia);refine⟨hz,ite2 (fun h=>?_) (fun h=>?_)⟩
  ·rw[ma (by lia)] at k;exact k
  ·obtain⟨a,b,rfl⟩:=zI (l:=l) (by lia);refine⟨a,hz,rfl,ha a (by simp),b,hz,rfl,ha b (by simp),?_⟩;have k:Q (signOf a b) H:=k;unfold signOf at k;cases e1:fig a with
   |none=>rw[e1] at k;rw[j5 e1];exact k
   |some x=>
    cases e2:fig b with
    |none=>rw[e1,e2] at k;rw[du e1,j5 e2];exact k
    |some y=>rw[e1,e2] at k;rw[du e1,du e2];walk_at "rd";exact⟨.inr ⟨by decide,by decide⟩,x * 16+y,by rw[Int.natCast_add,Int.natCast_mul];rfl,k⟩
theorem dX (g:G K mg):g.cP.Ok P w base 2 fW:=by
 refine g.cP.F.ok DY (fun vs H Q E h=>?_) (fun mt A dl s H vs Q E hr h=>?_)
 ·obtain⟨c,rfl,_⟩:=h;rfl
 ·obtain⟨l,rfl,hl,hs,k⟩:=h;refine⟨_,(aB (aE (aq (K:=K) rfl PySem.F.plainAttrs_str PySem.F.slot_str_join PySem.F.type_str_join (di (K:=K) rfl) aH (a8 (cmp1 [] [] (ip (pv 0)) bX (b8 (bv cI (pv 0) (aM (v:=gc) rfl g.iH ⟨_,rfl⟩) (by with_unfolding_all rfl)) (pv 0) (aF g.jm (Eu g) hr rfl (a8 (pv 0) a9)))) a9)))),?_⟩;walk_at "rd";intro p hp;refine mS (z:=⟨l.toArray⟩) (by rw[aU];exact aI (by lia)) hp (fun c=>.str ⟨(wr1 c).toArray⟩) (fun c hc H' R hR=>?_) (fun H' sm ld=>?_)
  ·have l1:=bh (hs c hc);have e:=j7 c (by lia);have ad:=hR H' (Same.refl _);walk_at "rd";unfold wr1 at ad;refine ite2 (fun h=>?_) (fun h=>?_)
   ·rw[decide_eq_true h] at e;rw[<- e,if_pos rfl] at ad;exact ad
   ·rw[decide_eq_false h] at e;rw[<- e,if_neg (by decide)] at ad;exact⟨by lia,ad⟩
  ·walk_at "rd";refine⟨l.map fun c=>⟨(wr1 c).toArray⟩,SqL.of (by rw[ld,map_map];rfl),?_,?_⟩
   ·have h3:∀m:List Nat,((m.map fun c=>(⟨(wr1 c).toArray⟩:Str)).map (·.length)).sum≤3 * m.length:=fun m=>by
     induction m with
     |nil=>simp
     |cons c r ih=>have:=mf c;simp only[map_cons,sum_cons,length_cons,aU] at ih ⊢;lia
    have:=h3 l;simp only[length_map,length_nil,Nat.mul_zero,Nat.add_zero,aU] at this ⊢;lia
   ·rw[j4];have e:((l.map fun c=>(⟨(wr1 c).toArray⟩:Str)).flatMap fun y=>y.cps.toList)=wr l:=by
     unfold wr;rw[List.flatMap_map]
    rw[e];exact k H' sm
theorem tz (g:G K mg):g.gk.Ok P w base 2 sp_is_name:=by
 refine g.gk.F.ok DZ (fun vs H Q E h=>?_) (fun dl A ad s H vs Q E hr h=>?_)
 ·obtain⟨n,rfl,_⟩:=h;rfl
 ·obtain⟨n,rfl,hn,k⟩:=h;refine⟨_,(aB (aE (aj (aP bM rfl g.bE bK (a8 (pv 0) (a8 (bG (v:=.ty "str") rfl g.cC cH rfl) a9))) (aj (ig cF cF aA (aP (ac (K:=K) rfl) rfl g.aZ PySem.boot_len (a8 (pv 0) a9)) (aM (v:=Dt) rfl g.t6 ⟨_,rfl⟩)) (ao (aF g.cO (dW g) hr rfl (a8 (pv 0) (a8 (aM (v:=gb) rfl g.l0 ⟨_,rfl⟩) a9)))))))),?_⟩;have eF:gb=.str ⟨smaL.toArray⟩:=by
   show V.str (Str.ofString _)=_;unfold smaL;simp
  rw[eF];have h1:=hn.1;walk_at "rd";refine⟨aI (by lia),ite2 (fun _=>ite2 (fun _=>⟨_,_,rfl,by rw[aU];lia,fun H' sm=>?_⟩) (fun z=>absurd h1.2 (by lia))) (fun z=>absurd h1.1 (by lia))⟩;have e:=hn.2;rw[oZ] at e;rw[show (mkS n).cps.toList=n by simp,show (mkS smaL).cps.toList=smaL by simp,e];exact k H' sm
theorem u0 (g:G K mg):g.gl.Ok P w base 2 (sp_names_of K):=by
 refine g.gl.F.ok E1 (fun vs H Q E h=>?_) (fun ld A ad s H vs Q E hr h=>?_)
 ·obtain⟨cs,xs,q,rfl,_⟩:=h;rfl
 ·obtain⟨cs,xs,q,rfl,hq,hx,hn,k⟩:=h;refine⟨_,(aB (aE (cmp1 [] [] (cu (K:=K) rfl (pv 0)) (fk (aR (aF g.eI (lT g) hr rfl (a8 (pv 0) a9)))) (aF g.eJ (lU g) hr rfl (a8 (pv 0) a9))))),?_⟩;walk_at "rd";have hl:=hx.length;refine⟨⟨_,hq⟩,fun p n=>?_⟩;refine C0 (fun i=>(cs[i]?.map fun c=>!c.isStep).getD false) (fun i=>(cs[i]?.map fun c=>tV c.name).getD .non) hq (aI (by lia)) n (fun i x hi H1 R s1 hR=>?_) (fun i x hi ht H1 T s1 hT=>?_) (fun H1 s1 dl=>?_)
  ·obtain⟨c,q,hc,rfl,hv⟩:=hx.get hi;walk_at "rd";have:=hR H1 (Same.refl _);rw[hc] at this;exact⟨c,q,rfl,s1.tup hv,_,rfl,this⟩
  ·obtain⟨c,q,hc,rfl,hv⟩:=hx.get hi;rw[hc] at ht;walk_at "rd";have:=hT H1 (Same.refl _);rw[hc] at this;exact⟨c,q,rfl,s1.tup hv,by simpa using ht,this⟩
  ·refine k p H1 s1 ?_;rw[dl,hl,on (fun c:Pc=>!c.isStep) (fun c:Pc=>tV c.name) .non cs];unfold gapsM;rw[map_map];rfl
theorem EG (g:G K mg):g.jx.Ok P w base 2 (sp_spread K):=by
 refine g.jx.F.ok lI (fun vs H Q E h=>?_) (fun Fn A mt s H vs Q E hr h=>?_)
 ·obtain⟨cs,xs,p,q,e,n,rfl,_⟩:=h;rfl
 ·obtain⟨cs,xs,p,q,e,n,rfl,hp,hq,hx,hn,Cl,k0,k⟩:=h;refine⟨_,(aC (sx 2 lI.nd (px K (pv 0) (aM (v:=cN) rfl g.cA ⟨_,rfl⟩)))
   (aC (sx 3 lI.nd (aD fZ (pv 1) (aP (ac (K:=K) rfl) rfl g.aZ PySem.boot_len (a8 (pv 2) a9))))
   (aC (aJ (PW.pt (cS (aR (aF g.jr (Ez g) hr rfl (a8 (pv 0) a9))) (cj (ptm uf (pv 3) aA))))
    (aB (aE (aD (aQ (K:=K)) (pv 2) (aD Ap (ay bi (pv 2) (au (cT cU aA)) b9) (pv 3))))) aK)
   (aB (aE (b8 (ptm aO (pv 3) aA) (pv 2) aS)))))),?_⟩
  walk_at "rd";refine⟨_,_,.inr hp,aG (j:=0) rfl,?_⟩;have hl:=hx.length;walk_at "rd";refine⟨xs,.inr (.of hq),?_⟩;refine⟨cs,xs,p,q,e,rfl,hp,.of hq,hx,by lia,_,rfl,?_⟩;rw[hl];have ad:¬ (hasRest cs=true∧cs.length≤n)->if (n:Int) - (cs.length:Int)=0 then Q (.ref q) H else Q .non H:=fun dl=>by
   refine ite2 (fun h0=>?_) (fun h0=>?_)
   ·refine k cs xs q H ?_ (Same.refl _) (.of hq) hx;unfold spreadM;rw[if_neg dl,if_pos (by lia)]
   ·refine k0 ?_;unfold spreadM;rw[if_neg dl,if_neg (by lia)]
  refine ite2 (fun hr=>ite2 (fun hm=>?_) (fun hm=>ad fun z=>by lia)) (fun hr=>ad fun z=>hr z.1);have BT:(xs.drop (xs.length - 1)).length≤1:=by rw[length_drop];lia
  have ht:((n:Int) - (cs.length:Int)).toNat=n - cs.length:=by lia
  refine⟨_,hq,fun p1 H1 s1 e1=>⟨_,e1,hm,by lia,?_,fun p2 H2 s2 e2=>.inr ⟨_,_,(s1.trans s2) _ _ hq,e2,?_,fun p3 H3 s3 e3=>?_⟩⟩⟩
  ·rw[jU,ht];exact aI (Nat.le_trans (Nat.mul_le_mul BT (Nat.le_refl _)) (by lia))
  ·rw[jU,ht];have:=BS (xs.drop (xs.length - 1)) (n - cs.length) BT;exact aI (by lia)
  ·rw[jU,ht,hl] at e3;have ld:=s1.trans (s2.trans s3);refine k _ _ p3 H3 ?_ ld (.of e3) (PcAll.append (((hx.drop (cs.length - 1)).reps (n - cs.length)).mono ld) (hx.mono ld));unfold spreadM;rw[if_pos ⟨hr,by lia⟩]
theorem EH (g:G K mg):g.jy.Ok P w base 2 (sp_fits_part K):=by
 refine g.jy.F.ok lJ (fun vs H Q E h=>?_) (fun dl A ad s H vs Q E hr h=>?_)
 ·obtain⟨h1,n,t,s,p,rfl,_⟩:=h;rfl
 ·obtain⟨h1,n,t,s,p,rfl,hp,hs,hh,ht,k⟩:=h;refine⟨_,(aC (sx 2 lJ.nd (aF g.dH (iW g) hr rfl (a8 (pv 0) a9)))
   (aC (sx 3 lJ.nd (aF g.dI (iX g) hr rfl (a8 (pv 0) a9)))
   (aB (aE (aj (aq (K:=K) rfl PySem.F.plainAttrs_str PySem.F.slot_str_startswith PySem.F.type_str_startswith oS (pv 1) (a8 (pv 2) a9)) (aj (aq (K:=K) rfl PySem.F.plainAttrs_str PySem.F.slot_str_endswith PySem.F.type_str_endswith BN (pv 1) (a8 (pv 3) a9)) (ao (pcm bT (aP (ac (K:=K) rfl) rfl g.aZ PySem.boot_len (a8 (pv 1) a9)) (aD (ah (K:=K) rfl) (aP (ac (K:=K) rfl) rfl g.aZ PySem.boot_len (a8 (pv 2) a9)) (aP (ac (K:=K) rfl) rfl g.aZ PySem.boot_len (a8 (pv 3) a9))))))))))),?_⟩
  walk_at "rd";refine⟨_,p,rfl,hp,_,p,rfl,hp,?_⟩;show rStart1 (tV s) [tV h1] H _;rw[L2.oU];have kp:partB h1 t s=(decide (s.take h1.length=h1) && (decide (s.drop (s.length - t.length)=t) && decide (h1.length+t.length < s.length))):=rfl;rw[kp] at k;refine⟨_,rfl,ite2 (fun ha=>?_) (fun ha=>?_)⟩;rotate_left
  ·rw[(Bool.not_eq_true _).mp ha] at k;exact k
  rw[ha,Bool.true_and] at k;show rEnd1 (tV s) [tV t] H _;rw[L2.oW];refine⟨_,rfl,ite2 (fun hb=>?_) (fun hb=>?_)⟩;rotate_left
  ·rw[(Bool.not_eq_true _).mp hb] at k;exact k
  rw[hb,Bool.true_and] at k;refine⟨aI hs,?_⟩;show rLenU K [tV h1] H _;walk_at "rd";refine⟨aI hh,aI ht,?_⟩;show Q (V.bl (decide ((h1.length:Int)+(t.length:Int) < (s.length:Int)))) H;rw[show decide ((h1.length:Int)+(t.length:Int) < (s.length:Int))=decide (h1.length+t.length < s.length) from decide_eq_decide.mpr (by lia)];exact k
theorem EI (g:G K mg):g.jz.Ok P w base 2 sp_is_number:=by
 refine g.jz.F.ok E2 (fun vs H Q E h=>?_) (fun dl A ad s H vs Q E hr h=>?_)
 ·obtain⟨l,rfl,_⟩:=h;rfl
 ·obtain⟨l,rfl,hl,k⟩:=h;refine⟨_,(aC (aJ (PW.pt (am (ak (ul cF cF aA (aP (ac (K:=K) rfl) rfl g.aZ PySem.boot_len (a8 (pv 0) a9)) (aM (v:=Du) rfl g.tE ⟨_,rfl⟩))) (ax (ak (aR (aF g.cO (dW g) hr rfl (a8 (pv 0) (a8 (aM (v:=eG) rfl g.iG ⟨_,rfl⟩) a9))))))))
    (aB (aE bA)) aK)
   (aB (aE (ck (pcm aO (pv 0) aH) (ao (pcm bB (px K (pv 0) aA) aH)))))),?_⟩
  have eF:eG=.str ⟨fgS.toArray⟩:=by show V.str (Str.ofString _)=_;unfold fgS;simp
  have e0:Str.ofString "0"=⟨[48].toArray⟩:=by decide +kernel
  rw[eF,e0];walk_at "rd";have no:∀H',Same H H'->(¬ (1≤l.length∧l.length≤60∧l.all isFig=true))->Q (.bl false) H':=fun H' sm h=>by
   have:numB l=false:=by
    unfold numB;by_cases h1:1≤l.length
    ·by_cases h2:l.length≤60
     ·rw[show l.all isFig=false by simpa using fun z=>h ⟨h1,h2,z⟩];simp
     ·rw[decide_eq_false h2];simp
    ·rw[decide_eq_false h1];simp
   rw[<- this];exact k H' sm
  refine⟨aI hl,ite2 (fun h1=>ite2 (fun h2=>no _ (Same.refl _) (by lia)) (fun h2=>?_)) (fun h1=>no _ (Same.refl _) (by lia))⟩;refine⟨_,_,rfl,hl,fun H' sm=>⟨_,rfl,?_⟩⟩;have ea:((⟨l.toArray⟩:Str).cps.toList.all fun c=>decide (c∈(⟨fgS.toArray⟩:Str).cps.toList))=l.all isFig:=by rw[<- BQ]
  rw[ea];refine ite2 (fun h3=>no H' sm (by rw[h3];simp)) (fun h3=>?_);have h3:l.all isFig=true:=by simpa using h3
  have en:numB l=(decide (l=[48]) || !decide (l.head?=some 48)):=by unfold numB;rw[decide_eq_true (show 1≤l.length by lia),decide_eq_true (show l.length≤60 by lia),h3];rfl
  have k':=k H' sm;rw[en] at k';cases l with
  |nil=>simp at h1
  |cons c r=>
   refine ite2 (fun h4=>?_) (fun h4=>⟨c,aI hl,aG (j:=0) rfl,?_⟩)
   ·rw[decide_eq_true (ar.mp h4)] at k';exact k'
   ·rw[decide_eq_false (fun z=>h4 (by rw[z]))] at k';have:decide ((⟨#[c]⟩:Str)=⟨[48].toArray⟩)=decide ((c::r).head?=some 48):=by
     refine decide_eq_decide.mpr ?_;rw[show (⟨#[c]⟩:Str)=⟨[c].toArray⟩ from rfl,ar];simp
    first|(rw[this];simpa using k')|(simp at this ⊢;simpa [this] using k')
theorem uA (g:G K mg):g.gm.Ok P w base 2 sp_is_word:=by
 refine g.gm.F.ok E3 (fun vs H Q E h=>?_) (fun dl A ad s H vs Q E hr h=>?_)
 ·obtain⟨l,rfl,_⟩:=h;rfl
 ·obtain⟨l,rfl,hl,k⟩:=h;refine⟨_,(aB (aE (aj (ig cF cF aA (aP (ac (K:=K) rfl) rfl g.aZ PySem.boot_len (a8 (pv 0) a9)) (aM (v:=Dv) rfl g.tF ⟨_,rfl⟩)) (ao (aF g.cO (dW g) hr rfl (a8 (pv 0) (a8 (aM (v:=gb) rfl g.l0 ⟨_,rfl⟩) a9))))))),?_⟩;have eF:gb=.str ⟨smaL.toArray⟩:=by
   show V.str (Str.ofString _)=_;unfold smaL;simp
  rw[eF];walk_at "rd";have no:(¬ (1≤l.length∧l.length≤60))->Q (.bl false) H:=fun h=>by
   have:wordB l=false:=by
    unfold wordB;by_cases h1:1≤l.length
    ·rw[decide_eq_false (show ¬ l.length≤60 from fun z=>h ⟨h1,z⟩)];simp
    ·rw[decide_eq_false h1];simp
   rw[<- this];exact k H (Same.refl _)
  refine⟨aI hl,ite2 (fun h1=>ite2 (fun h2=>?_) (fun h2=>no (by lia))) (fun h1=>no (by lia))⟩;refine⟨_,_,rfl,hl,fun H' sm=>?_⟩;have e:wordB l=(l.all fun c=>decide (c∈smaL)):=by unfold wordB;rw[decide_eq_true (show 1≤l.length by lia),decide_eq_true (show l.length≤60 by lia),oZ];rfl
  have:=k H' sm;rw[e] at this;simpa using this
theorem EJ (g:G K mg):g.k6.Ok P w base 2 (sp_bound_value K):=by
 refine g.k6.F.ok E4 (fun vs H Q E h=>?_) (fun mt A ad s H vs Q E hr h=>?_)
 ·obtain⟨c,s,ss,p,q,rfl,_⟩:=h;rfl
 ·obtain⟨c,s,ss,p,q,rfl,hp,hq,hf,hs,hh,ht,hn,k⟩:=h;refine⟨_,(aC (aJ (ptm aO (px K (pv 0) aA) aH)
    (aB (aE (bD (yi (K:=K) rfl) rfl g.iN ir (a8 (pv 1) a9)))) aK)
   (aC (aJ (ptm aO (px K (pv 0) aA) aH)
    (aB (aE (bD jG rfl g.cB cG (a8 (px K (pv 1) aA) a9)))) aK)
   (aB (aE (ay (cr (K:=K) rfl) (px K (pv 1) aA) (au (aP (ac (K:=K) rfl) rfl g.aZ PySem.boot_len (a8 (aF g.dH (iW g) hr rfl (a8 (pv 0) a9)) a9))) (au (aD fZ (aP (ac (K:=K) rfl) rfl g.aZ PySem.boot_len (a8 (px K (pv 1) aA) a9)) (aP (ac (K:=K) rfl) rfl g.aZ PySem.boot_len (a8 (aF g.dI (iX g) hr rfl (a8 (pv 0) a9)) a9))))))))),?_⟩
  walk_at "rd";refine⟨_,_,.inr hp,c.at0,?_⟩;refine L2.aX.mpr ⟨_,rfl,?_⟩;rw[dz];have rest:c.isRest=false->c.isNum=false->c.head.length+c.tail.length≤s.length->∃xs v,(SqL K H q xs∨SqT K H q xs)∧atI xs 0=some v∧sp_head_of K [V.ref p] H (fun x H1=>rLenU K [x] H1 fun x H1=>∃i,x=V.int i∧∃xs v_1,(SqL K H1 q xs∨SqT K H1 q xs)∧atI xs 0=some v_1∧rLenU K [v_1] H1 fun x H1=>sp_tail_of K [V.ref p] H1 (fun dl H1=>rLenU K [dl] H1 fun y H2=>rI0 (fun i j=>V.int (i - j)) x y H2 fun x H1=>∃i_1,x=V.int i_1∧rSl K v (some i) (some i_1) H1 Q) E0) E0:=fun h1 h2 ld=>by
   refine⟨_,_,.inr (.of hq),aG (j:=0) rfl,c,p,rfl,hp,aI hh,_,rfl,_,_,.inr (.of hq),aG (j:=0) rfl,aI hs,c,p,rfl,hp,aI ht,?_⟩;refine⟨_,_,rfl,rfl,_,rfl,?_⟩;refine L2.mP.mpr ⟨aI hs,?_⟩;show Q (.str (Txt.slice ⟨s.toArray⟩ (some (c.head.length:Int)) (some ((s.length:Int) - (c.tail.length:Int))))) H;rw[show (s.length:Int) - (c.tail.length:Int)=((s.length - c.tail.length:Nat):Int) by lia,g9];refine k _ H (Same.refl _) ?_ (fun q z=>by cases z);cases c with
   |rest n=>cases h1
   |num n=>cases h2
   |_=>rfl
  cases c with
  |rest n=>refine ite2 (fun _=>?_) (fun z=>absurd rfl z);exact⟨_,.inr (.of hq),fun l H1 n1 s1 e1=>k _ H1 s1 ⟨l,rfl,e1⟩ (fun q z=>by cases z;exact n1)⟩
  |num n=>refine ite2 (fun z=>by cases z) (fun _=>⟨_,_,.inr hp,Pc.at0 _,?_⟩);refine L2.aX.mpr ⟨_,rfl,?_⟩;rw[cL];refine ite2 (fun _=>⟨_,_,.inr (.of hq),aG (j:=0) rfl,?_⟩) (fun z=>absurd rfl z);have hn:=jT hf;exact⟨⟨s.toArray⟩,intOf s,rfl,by show s.length≤640;lia,BP hn.2.2 hn.1 hn.2.1,k _ H (Same.refl _) rfl (fun q z=>by cases z)⟩
  |part h n t=>refine ite2 (fun z=>by cases z) (fun _=>⟨_,_,.inr hp,Pc.at0 _,?_⟩);refine L2.aX.mpr ⟨_,rfl,?_⟩;rw[cL];exact ite2 (fun z=>by cases z) (fun _=>rest rfl rfl (BR hf))
  |_=>refine ite2 (fun z=>by cases z) (fun _=>⟨_,_,.inr hp,Pc.at0 _,?_⟩);refine L2.aX.mpr ⟨_,rfl,?_⟩;rw[cL];exact ite2 (fun z=>by cases z) (fun _=>rest rfl rfl (by show 0+0≤_;lia))
theorem EK (g:G K mg):g.k7.Ok P w base 2 (sp_steps_of_value K):=by
 refine g.k7.F.ok E5 (fun vs H Q E h=>?_) (fun Fn A BT s H vs Q E hr h=>?_)
 ·obtain⟨c,p,d,v,rfl,_⟩:=h;rfl
 ·obtain⟨c,p,d,v,rfl,hp,hc,hh,ht,hv,hs,ad,k⟩:=h;refine⟨_,(aC (aJ (ptm aO (px K (pv 0) aA) aH)
    (aB (aE (pv 1))) aK)
   (aC (aJ (ptm aO (px K (pv 0) aA) aH)
    (aB (aE (aw (a8 (bD lm rfl g.cC cH (a8 (pv 1) a9)) a9)))) aK)
   (aB (aE (aw (a8 (aD (aQ (K:=K)) (aD (aQ (K:=K)) (aF g.dH (iW g) hr rfl (a8 (pv 0) a9)) (pv 1)) (aF g.dI (iX g) hr rfl (a8 (pv 0) a9))) a9)))))),?_⟩
  walk_at "rd";have b3:300000≤sizeLine:=by decide
  refine⟨_,_,.inr hp,c.at0,aX.mpr ⟨_,rfl,?_⟩⟩;rw[dz];refine ite2 (fun dl=>?_) (fun dl=>⟨_,_,.inr hp,c.at0,aX.mpr ⟨_,rfl,?_⟩⟩)
  ·cases c with
   |rest n=>
    cases hv with
    |lst hl r=>rename_i a xs ds;have e:isValD (.rest n) (.list ds)=(decide (0 < ds.length) && ds.all canD):=rfl;rw[e,Bool.and_eq_true] at ad;refine k a H (Same.refl _) ?_;rw[hl,oo r ad.2];rfl
    |_=>cases ad
   |_=>cases dl
  rw[cL];refine ite2 (fun ld=>?_) (fun ld=>?_)
  ·cases c with
   |num n=>
    cases hv with
    |int i=>
     have e:isValD (.num n) (.int i)=decide (0≤i∧i < 10 ^ 60):=rfl;rw[e] at ad;have h60:=of_decide_eq_true ad;have Cl:i.natAbs.log2 < 1920:=by
      by_cases h0:i.natAbs=0
      ·rw[h0];decide
      ·rw[Nat.log2_lt h0];have:i.natAbs < 10 ^ 60:=by lia
       exact Nat.lt_of_lt_of_le this (by decide +kernel)
     exact⟨i,rfl,Cl,by decide,fun p1 H1 n1 s1 mt=>k p1 H1 s1 mt⟩
    |_=>cases ad
   |_=>cases ld
  ·have e:isValD c d=(ftx d && !isDot (c.head++txD d++c.tail))∨c.isWord=true:=by
    cases c with
    |part a b e=>exact .inl rfl
    |gap n=>exact .inl (show (ftx d && !isDot (txD d))=(ftx d && !isDot ([]++txD d++[])) by rw[nil_append,append_nil])
    |step s=>cases hc
    |num n=>exact absurd rfl ld
    |word n=>exact .inr rfl
    |rest n=>exact absurd rfl dl
   have e2:stpsD c d=[c.head++txD d++c.tail]:=by
    cases c with
    |step s=>cases hc
    |num n=>exact absurd rfl ld
    |rest n=>exact absurd rfl dl
    |_=>rfl
   cases hv with
   |str x=>
    obtain⟨⟨l⟩⟩:=x;have hl:l.length≤100000:=cw hs;refine⟨c,p,rfl,hp,bP.mpr ⟨Nat.le_trans (show c.head.length+l.length≤300000 by lia) b3,c,p,rfl,hp,bP.mpr ⟨?_,by decide,fun p1 H1 n1 s1 mt=>k p1 H1 s1 ?_⟩⟩⟩
    ·show ((⟨c.head.toArray⟩:Str)++⟨l.toArray⟩).length+c.tail.length≤_;rw[b7,aU,length_append];lia
    ·rw[mt,e2];show some (HO.lst [V.str ((⟨c.head.toArray⟩:Str)++⟨l.toArray⟩++⟨c.tail.toArray⟩)])=_;rw[b7,b7];rfl
   |_=>
    rcases e with e|e
    ·rw[e] at ad;cases ad
    ·cases c with
     |word n=>cases ad
     |_=>cases e
theorem iZ (g:G K mg):FnOk P w K mg base CX0 2 g.hU g.i6 ["self","signs"] (sp_Cursor_sees K g.aV):=by
 refine g.sJ.ok E6 (fun vs H Q E h=>?_) (fun ld A dl s H vs Q E hr h=>?_)
 ·obtain⟨p,t,sg,i,rfl,_⟩:=h;rfl
 ·obtain⟨p,t,sg,i,rfl,⟨dx,hp⟩,hi,hl,k⟩:=h;refine⟨_,(aB (aE (aj (dZ (cV (pv 0) g.aW g.ky (tp g) (hr.mono (by decide)) g.kr .nil pass0)) (ao (fb cI (px K (bC (pv 0) rfl) (bC (pv 0) rfl)) (pv 1) (by with_unfolding_all rfl)))))),?_⟩;have ad:Cur H g.aV p t i:=⟨dx,hp⟩;walk_at "rd";refine af ad ⟨p,t,i,rfl,ad,hl,_,rfl,?_⟩;by_cases he:i=t.length
  ·rw[decide_eq_true he,if_neg (by decide)];rw[jJ (by rw[he];exact List.getElem?_eq_none (Nat.le_refl _))] at k;exact k
  rw[decide_eq_false he,if_pos rfl];refine cZ ad g.aW g.c9 (bz ad g.aW g.bR ?_);have hc:t[i]?=some t[i]:=List.getElem?_eq_getElem (by lia);walk_at "rd";refine⟨t[i],aI hl,aG hc,?_⟩;rw[cJ hc] at k;exact k
theorem EL (g:G K mg):g.k8.Ok P w base 2 (sp__law_cells K):=by
 refine g.k8.F.ok E7 (fun vs H Q E h=>?_) (fun ld A dl s H vs Q E hr h=>?_)
 ·obtain⟨a,ns,s,m,rfl,_⟩:=h;rfl
 ·obtain⟨a,ns,s0,m,rfl,hS,hm,k⟩:=h;refine⟨_,(aB (aE (cmp1 ["_law_script","_law_start"] [0,1] (bu rfl g.bo (a8 (pv 2) a9)) bX (aF g.bQ (be g) hr rfl (a8 (pv 1) (a8 (aD (aQ (K:=K)) (pv 2) (pv 0)) a9)))))),?_⟩;walk_at "rd";refine⟨by lia,by lia,fun p n=>?_⟩;rw[Int.toNat_natCast];refine oQ (fun i ys H'=>SameBut p H H'∧∃is:List Int,ys=is.map V.int∧is.length=i) (aI (by lia)) ⟨bg,[],rfl,rfl⟩ (fun i ys H2 T hi hJ ad hT=>?_) (fun ys H2 hJ ad=>?_)
  ·obtain⟨sb,is,rfl,hl⟩:=hJ;walk_at "rd";rw[show ((s0:Int)+(0+(i:Int)))=((s0+i:Nat):Int) by lia];exact⟨a,ns,s0+i,rfl,(sb.same n).seq hS,hT _ H2 ad ⟨sb.trans bg,is++[ns.getD (s0+i) 0],by rw[map_append];rfl,by rw[length_append,length_singleton,hl]⟩⟩
  ·obtain⟨sb,is,rfl,hl⟩:=hJ;exact k is p H2 hl (sb.same n) ad
theorem EM (g:G K mg):g.k9.Ok P w base 2 sp__law_one_step:=by
 refine g.k9.F.ok E8 (fun vs H Q E h=>?_) (fun BT A ad s H vs Q E hr h=>?_)
 ·obtain⟨c,gg,rfl,_⟩:=h;rfl
 ·obtain⟨c,gg,rfl,mt,ld,dl,k⟩:=h;refine⟨_,(aC (aJ (ptm aO (aD aT (pv 0) aA) aA)
    (aB (aE aH)) aK)
   (aC (aJ (ptm aO (aD aT (pv 0) aA) aA)
    (aB (aE aH)) aK)
   (aC (aJ (ptm aO (aD aT (pv 0) aA) aA)
    (aB (aE (aF g.ba (cE g) hr rfl (a8 (aD ai (pv 0) aA) (a8 (aD (aQ (K:=K)) aA (aD aT (aD ai (pv 0) aA) aA)) a9))))) aK)
   (aB (aE (aF g.jv (EE g) hr rfl (a8 (aD ai (pv 0) aA) (a8 (pv 1) (a8 (aD (aQ (K:=K)) aA (aD aT (aD ai (pv 0) aA) aA)) a9))))))))),?_⟩
  have d1:Str.ofString ".."=⟨sUp.toArray⟩:=by decide +kernel
  have d2:Str.ofString "."=⟨sStay.toArray⟩:=by decide +kernel
  rw[d1,d2];walk_at "rd";have md:∀(z b:Int),0 < b->∃m:Nat,(1≤m∧(m:Int)≤b)∧1+z % b=(m:Int):=fun z b hb=>by have h1:=Int.emod_nonneg z (show b≠0 by lia);have h2:=Int.emod_lt_of_pos z hb;exact⟨(1+z % b).toNat,by lia,by lia⟩
  refine⟨by decide,ite2 (fun _=>k sUp (by decide) (by decide) (by decide)) (fun _=>⟨by decide,ite2 (fun _=>k sStay (by decide) (by decide) (by decide)) (fun _=>⟨by decide,ite2 (fun _=>?_) (fun _=>?_)⟩)⟩)⟩
  ·obtain⟨m,hm,em⟩:=md (c / 5) 3 (by decide);rw[em];refine⟨⟨by decide,by decide⟩,⟨by decide,by decide⟩,by decide,c / 5,m,rfl,by lia,fun l hl hs=>k l (fun e=>?_) (by lia) hs⟩;rw[e] at hl;simp at hl;lia
  ·obtain⟨m,hm,em⟩:=md (c / 5) 2 (by decide);rw[em];refine⟨⟨by decide,by decide⟩,⟨by decide,by decide⟩,by decide,c / 5,gg,m,rfl,mt,ld,by lia,fun l hl hs=>k l (fun e=>?_) (by lia) fun x hx=>dl x (hs x hx)⟩;rw[e] at hl;simp at hl;lia
theorem uB (g:G K mg):g.gn.Ok P w base 2 (sp__law_question K):=by
 refine g.gn.F.ok iP (fun vs H Q E h=>?_) (fun FF A ld s H vs Q E hr h=>?_)
 ·obtain⟨c,rfl,_⟩:=h;rfl
 ·obtain⟨c,rfl,k⟩:=h;refine⟨_,(aC (aJ (ptm aO (aD aT (pv 0) aA) aA)
    (aB (aE aS)) aK)
   (aC (sx 1 iP.nd (aw a9))
   (aC (bO PassesOwn.never rfl (bu rfl g.bo (a8 (aD aT (aD ai (pv 0) aA) aA) a9)) (pgn 2 iP.nd)
   (aC (sx 3 iP.nd (aD ai (pv 0) (aD (aQ (K:=K)) aA (aD bf aA (pv 2)))))
   (aB (bH (aq (K:=K) rfl PySem.F.plainAttrs_list PySem.F.slot_list_append PySem.F.type_list_append bU (pv 1) (a8 (al (a8 (aF g.ba (cE g) hr rfl (a8 (pv 3) (a8 (aD (aQ (K:=K)) aA (aD aT (pv 3) aA)) a9))) (a8 (px K (aw (a8 aS (a8 (aF g.ba (cE g) hr rfl (a8 (aD ai (pv 3) aA) (a8 (aD aT (pv 3) aA) a9))) a9))) (aD aT (aD ai (pv 3) aA) aA)) a9))) a9))))))
   (aB (aE (bD (cv (K:=K) rfl) rfl g.bn bw (a8 (pv 1) a9))))))),?_⟩
  walk_at "rd";have md:∀(z b:Int),0 < b->∃m:Nat,(m:Int) < b∧z % b=(m:Int):=fun z b hb=>by have h1:=Int.emod_nonneg z (show b≠0 by lia);have h2:=Int.emod_lt_of_pos z hb;exact⟨(z % b).toNat,by lia,by lia⟩
  obtain⟨m,hm,em⟩:=md (c / 3) 3 (by decide);rw[em];refine⟨by decide,ite2 (fun _=>k none _ H (fun _ z=>by cases z) (Same.refl _) .non) (fun _=>⟨by decide,fun p1 H1 n1 s1 e1=>⟨⟨by decide,by decide⟩,by decide,by lia,by lia,?_⟩⟩)⟩;rw[Int.toNat_natCast];refine cq (fun i σ H'=>SameBut p1 H H'∧∃(ps:List (List Nat×Option (List Nat))) (ys:List V) (v2 v3:Option V),σ=[some (.int c),some (.ref p1),v2,v3]∧ps.length=i∧(∀p∈ps,(0 < p.1.length∧Tx 5 p.1)∧∀v,p.2=some v->Tx 6 v)∧H' p1=some (.lst ys)∧IsTAll H' (ps.map fun p=>.tuple [st p.1,oD p.2]) ys) ⟨Same.but s1,[],[],none,none,rfl,rfl,(fun p hp=>by cases hp),e1,.nil⟩ ?_ ?_
  ·rintro i σ H2 hi ⟨sb,ps,ys,v2,v3,rfl,hl,hs,h2,ad⟩;walk_at "rd";have FC:(i:Int) < 3:=by lia
   obtain⟨M,hM⟩:∃M,M=c / (9+4 * (0+(i:Int))):=⟨_,rfl⟩;rw[<- hM];obtain⟨a1,FE,Fz⟩:=md M 3 (by decide);obtain⟨a2,FD,Fy⟩:=md M 4 (by decide);obtain⟨a3,Fr,Fx⟩:=md (M / 3) 2 (by decide);rw[Fz,Fy,Fx,show (1:Int)+(a1:Int)=((1+a1:Nat):Int) by lia];refine⟨.inl ⟨by decide,by decide⟩,⟨by lia,by lia⟩,⟨_,.of h2⟩,by decide,M,1+a1,rfl,by lia,fun l1 FB Fn=>⟨⟨by decide,by decide⟩,by decide,M / 7,a2,rfl,by lia,fun l2 FA Cl=>⟨by decide,fun p3 H3 n3 s3 e3=>⟨⟨by decide,by decide⟩,by decide,?_⟩⟩⟩⟩;obtain⟨o,v,hv,BT,ho⟩:∃(o:Option (List Nat)) (v:V),atI [V.non,tV l2] (a3:Int)=some v∧(∀H,IsT H (oD o) v)∧∀z,o=some z->Tx 6 z:=by
    match a3,Fr with
    |0,_=>exact⟨none,.non,aG (j:=0) rfl,fun _=>.non,fun z hz=>by cases hz⟩
    |1,_=>exact⟨some l2,tV l2,aG (j:=1) rfl,fun _=>.str _,fun z hz=>by cases hz;exact⟨by lia,Cl⟩⟩
   refine⟨_,v,.inl (.of e3),hv,by decide,fun p4 H4 n4 s4 e4=>?_⟩;have dl:=s3.trans s4;have mt:p4≠p1:=fun z=>by rw[z,dl _ _ h2] at e4;cases e4
   refine⟨_,dl _ _ h2,Nat.lt_of_le_of_lt (show ys.length≤100 by have:=ad.length;rw[length_map] at this;lia) (by decide),(sb.trans dl.but).trans bg,ps++[(l1,o)],_,_,_,⟨rfl,rfl⟩,by rw[length_append,length_singleton,hl],fun p hp=>?_,aL,?_⟩
   ·rcases mem_append.mp hp with z|z
    ·exact hs p z
    ·rw[mem_singleton.mp z];exact⟨⟨by show 0 < l1.length;lia,by show l1.length≤5;lia,Fn⟩,ho⟩
   ·have t2:SameT H2 (upd H4 p1 (.lst (ys++[.ref p4]))):=fun b zs e=>by
     rw[aN (fun z=>by rw[z,h2] at e;cases e)];exact dl _ _ e
    rw[map_append];exact (ad.mono t2).append (.cons (.tup (by rw[aN mt];exact e4) (.cons (.str _) (.cons (BT _) .nil))) .nil)
  ·rintro σ H2 ⟨sb,ps,ys,v2,v3,rfl,hl,hs,h2,ad⟩;walk_at "rd";have s2:=sb.same n1;exact⟨_,.inl (.of h2),fun l H3 s3 e3=>k (some ps) _ H3 (fun qs z=>by cases z;exact⟨⟨by lia,fun p hp=>⟨(hs p hp).1.2.1,fun v e=>((hs p hp).2 v e).1⟩⟩,fun p hp=>⟨⟨(hs p hp).1.1,(hs p hp).1.2.2⟩,fun v e=>((hs p hp).2 v e).2⟩⟩) (s2.trans s3) (.tup e3 (ad.mono s3.toT))⟩
theorem ia (g:G K mg):g.dL.Ok P w base 2 sp__law_value:=by
 refine g.dL.F.ok tR (fun vs H Q E h=>?_) (fun dl A ad s H vs Q E hr h=>?_)
 ·obtain⟨c,rfl,_⟩:=h;rfl
 ·obtain⟨c,rfl,k⟩:=h;refine⟨_,(aC (sx 1 tR.nd (aF g.ba (cE g) hr rfl (a8 (aD ai (pv 0) aA) (a8 (aD (aQ (K:=K)) aA (aD aT (pv 0) aA)) a9))))
   (aC (aJ (PW.pt (am (ptm aO (pv 1) aH) (ax (ptm aO (pv 1) aH))))
    (aB (aE (aD (aQ (K:=K)) (pv 1) aH))) aK)
   (aB (aE (pv 1))))),?_⟩
  have d1:Str.ofString ".."=⟨sUp.toArray⟩:=by decide +kernel
  have d2:Str.ofString "."=⟨sStay.toArray⟩:=by decide +kernel
  have d3:Str.ofString "/"=⟨[47].toArray⟩:=by decide +kernel
  rw[d1,d2,d3];walk_at "rd";obtain⟨m,hm,em⟩:∃m:Nat,(1≤m∧m≤4)∧1+c % 4=(m:Int):=by have h1:=Int.emod_nonneg c (show (4:Int)≠0 by decide);have h2:=Int.emod_lt_of_pos c (show (0:Int) < 4 by decide);exact⟨(1+c % 4).toNat,by lia,by lia⟩
  rw[em];refine⟨⟨by decide,by decide⟩,by decide,c / 5,m,rfl,by lia,fun l hl hs=>?_⟩;have more:rAddS K (tV l) (tV [47]) H Q:=bP.mpr ⟨aI (by rw[aU,aU];simp only[length_cons,length_nil];lia),by
   rw[b7];refine k _ ⟨by simp,by rw[length_append,length_singleton];lia,fun x hx=>?_,CT (c:=47) (by simp) (by decide)⟩;rcases mem_append.mp hx with z|z
   ·exact hs x z
   ·rw[mem_singleton.mp z];decide⟩
  refine aX.mpr ⟨_,rfl,ite2 (fun _=>more) (fun z1=>aX.mpr ⟨_,rfl,ite2 (fun _=>more) (fun z2=>k l ⟨fun e=>?_,by lia,hs,gG.mpr ⟨fun e=>?_,fun e=>?_⟩⟩)⟩)⟩
  ·rw[e] at hl;simp at hl;lia
  ·exact z2 (decide_eq_true (by rw[e]))
  ·exact z1 (decide_eq_true (by rw[e]))
theorem EN (g:G K mg):g.kA.Ok P w base 3 tM:=by
 refine g.kA.F.ok E9 (fun vs H Q E h=>?_) (fun mt A ad s H vs Q E hr h=>?_)
 ·obtain⟨c,r,fr,rfl,_⟩:=h;rfl
 ·obtain⟨c,r,fr,rfl,hl,ha,ld,k⟩:=h;refine⟨_,(aC (aJ (ptm aO (px K (pv 0) aA) aH)
    (aB (aE (aF g.gj (tw g) hr rfl (a8 (ay (cr (K:=K) rfl) (pv 0) (au aA) b9) a9)))) aK)
   (aC (aJ (PW.pt (am (bv cI (pv 0) (aM (v:=gc) rfl g.iH ⟨_,rfl⟩) (by with_unfolding_all rfl)) (ax (bv cI (pv 0) (pv 1) (by with_unfolding_all rfl)))))
    (aB (aE (pv 0))) aK)
   (aB (aE aS)))),?_⟩
  by_cases hc:c=126
  ·subst hc;rw[mn] at k;walk_at "rd";refine⟨126,aI (by lia),aG (j:=0) rfl,?_⟩;rw[if_pos rfl];exact⟨aI (by lia),hl,fun d hd=>ha d (mem_cons_of_mem _ hd),k⟩
  ·have dl:r=[]:=ld.resolve_left hc;subst dl;walk_at "rd";have hp:=j7 c (ha c (by simp));rw[mq hc] at k;refine⟨c,by decide,rfl,?_⟩;rw[if_neg (zR hc)];refine ite2 (fun h=>?_) (fun h=>?_)
   ·rw[decide_eq_true h] at hp;rw[<- hp,Bool.true_or,if_pos rfl] at k;exact k
   ·rw[decide_eq_false h] at hp;rw[<- hp,Bool.false_or] at k;refine ite2 (fun h2=>?_) (fun h2=>?_)
    ·rw[if_pos (decide_eq_true h2)] at k;exact k
    ·rw[if_neg (by simpa using h2)] at k;exact k
theorem EO (g:G K mg):g.kB.Ok P w base 3 sp_is_scheme:=by
 refine g.kB.F.ok Ea (fun vs H Q E h=>?_) (fun ld A ad s H vs Q E hr h=>?_)
 ·obtain⟨d,v,rfl,_⟩:=h;rfl
 ·obtain⟨d,v,rfl,hv,hs,k⟩:=h;refine⟨_,(aC (aJ (PW.pt (am (ak (aR (aF g.dJ (iY g) hr rfl (a8 (pv 0) a9)))) (ax (ptm bT (aP (ac (K:=K) rfl) rfl g.aZ PySem.boot_len (a8 (pv 0) a9)) (aM (v:=Do) rfl g.sr ⟨_,rfl⟩)))))
    (aB (aE bA)) aK)
   (aB (aE (aj (aF g.cO (dW g) hr rfl (a8 (ay (cr (K:=K) rfl) (pv 0) b9 (au aA)) (a8 (aM (v:=Dh) rfl g.sY ⟨_,rfl⟩) a9))) (ao (aF g.cO (dW g) hr rfl (a8 (pv 0) (a8 (aM (v:=Di) rfl g.sZ ⟨_,rfl⟩) a9)))))))),?_⟩
  walk_at "rd";refine⟨d,v,rfl,hv,hs,fun H1 s1=>?_⟩;walk_at "rd";have k1:=k H1 s1;cases hv with
  |str x=>
   have hx:=cw hs;refine ite2 (fun h=>?_) (fun h=>?_)
   ·rw[show schD (.str x)=false by simp only[schD];rw[show x.cps.toList.all isSg=false from h];rfl] at k1;exact k1
   have h:x.cps.toList.all isSg=true:=(Bool.not_eq_false _).mp h;walk_at "rd";refine⟨aI hx,ite2 (fun h2=>?_) (fun h2=>?_)⟩
   ·rw[show schD (.str x)=false by simp only[schD,h,Bool.true_and];rw[decide_eq_false (by lia)];rfl] at k1;exact k1
   have e:x=⟨x.cps.toList.toArray⟩:=by simp
   refine⟨aI hx,?_⟩;have e1:Txt.slice x none (some 1)=⟨(x.cps.toList.take 1).toArray⟩:=by
    conv=>lhs;rw[e]
    exact z7 x.cps.toList 1
   rw[e1];refine⟨⟨(x.cps.toList.take 1).toArray⟩,_,rfl,by rw[aU,length_take];lia,fun H2 s2=>?_⟩;have dl:=all_eq_true.mp h;have f1:((⟨(x.cps.toList.take 1).toArray⟩:Str).cps.toList.all fun c=>decide (c∈(Str.ofString "abcdefghijklmnopqrstuvwxyzABCDEFGHIJKLMNOPQRSTUVWXYZ").cps.toList))=(x.cps.toList.take 1).all isLet:=by rw[mm,Bool.eq_iff_iff,all_eq_true,all_eq_true];refine forall_congr' fun c=>forall_congr' fun hc=>?_;rw[zW c (by have:=bh (dl c (List.mem_of_mem_take hc));lia)]
   have f2:(x.cps.toList.all fun c=>decide (c∈(Str.ofString "abcdefghijklmnopqrstuvwxyzABCDEFGHIJKLMNOPQRSTUVWXYZ0123456789").cps.toList))=x.cps.toList.all isAln:=by rw[Bool.eq_iff_iff,all_eq_true,all_eq_true];refine forall_congr' fun c=>forall_congr' fun hc=>?_;rw[zX c (by have:=bh (dl c hc);lia)]
   rw[f1];walk_at "rd";refine ite2 (fun h3=>?_) (fun h3=>?_)
   ·refine⟨x,_,rfl,hx,fun H3 s3=>?_⟩;have k3:=k H3 (s1.trans (s2.trans s3));rw[f2];simp only[schD,h,h3,Bool.true_and,decide_eq_true (show x.length≤8 by lia)] at k3;exact k3
   ·have k3:=k H2 (s1.trans s2);simp only[schD,h,(Bool.not_eq_true _).mp h3,Bool.false_and,Bool.and_false,Bool.true_and] at k3;exact k3
  |_=>exact k1
theorem lX (g:G K mg):g.eM.Ok P w base 3 sp_is_filled_text:=by
 refine g.eM.F.ok Eb (fun vs H Q E h=>?_) (fun dl A ad s H vs Q E hr h=>?_)
 ·obtain⟨d,v,rfl,_⟩:=h;rfl
 ·obtain⟨d,v,rfl,hv,hs,k⟩:=h;refine⟨_,(aB (aE (aj (aF g.dJ (iY g) hr rfl (a8 (pv 0) a9)) (ao (pcm bT (aP (ac (K:=K) rfl) rfl g.aZ PySem.boot_len (a8 (pv 0) a9)) aA))))),?_⟩;walk_at "rd";refine⟨d,v,rfl,hv,hs,fun H1 s1=>?_⟩;walk_at "rd";have k1:=k H1 s1;cases hv with
  |str x=>
   refine ite2 (fun h=>?_) (fun h=>?_)
   ·walk_at "rd";refine⟨aI (cw hs),?_⟩;have e:ftx (.str x)=decide ((0:Int) < (x.length:Int)):=by
     simp only[ftx];rw[show x.cps.toList.all isSg=true from h,Bool.true_and];exact decide_eq_decide.mpr (by lia)
    rw[e] at k1;exact k1
   ·rw[show ftx (.str x)=false by simp only[ftx];rw[show x.cps.toList.all isSg=false from (Bool.not_eq_true _).mp h,Bool.false_and]] at k1;exact k1
  |_=>exact k1
theorem EQ (g:G K mg):g.kC.Ok P w base 3 sp_shown_house:=by
 refine g.kC.F.ok tS (fun vs H Q E h=>?_) (fun mt A ad s H vs Q E hr h=>?_)
 ·obtain⟨o,d,rfl,_⟩:=h;rfl
 ·obtain⟨o,d,rfl,ho,hd,k⟩:=h;refine⟨_,(aC (aJ (ptm bL (pv 0) aS)
    (aB (aE aH)) aK)
   (ae (sx 2 tS.nd (b8 (ptm bL (pv 1) aS) aH (aD (ah (K:=K) rfl) aH (bD lm rfl g.cC cH (a8 (pv 1) a9)))))
   (aB (aE (aD (ah (K:=K) rfl) (aD (ah (K:=K) rfl) aH (aF g.cP (dX g) hr rfl (a8 (pv 0) a9))) (pv 2)))))),?_⟩
  have c1:Str.ofString ":"=⟨[58].toArray⟩:=by decide +kernel
  have c2:Str.ofString "//"=⟨[47,47].toArray⟩:=by decide +kernel
  rw[c1,c2];walk_at "rd";cases o with
  |none=>
   cases d with
   |some i=>exact absurd rfl (hd i rfl).2
   |none=>refine ite2 (fun _=>?_) (fun z=>absurd rfl z);exact k H (Same.refl _)
  |some l=>
   refine ite2 (fun z=>absurd z (by simp[otV])) (fun _=>?_);have hl:=ho l rfl;have w:=bV l;refine⟨fun σ H'=>H'=H∧σ=[some (otV (some l)),some (itV d),some (.str ⟨(dooT d).toArray⟩)]∧(dooT d).length≤6,?_,?_⟩
   ·cases d with
    |none=>exact ite2 (fun _=>⟨rfl,rfl,by decide⟩) (fun z=>absurd rfl z)
    |some i=>
     have hi:=(hd i rfl).1;have ld:=nA hi.1 hi.2;refine ite2 (fun z=>absurd z (by simp[itV])) (fun _=>?_);refine⟨i,rfl,lg hi.1 hi.2,aI (by rw[nN,aU];lia),rfl,?_,?_⟩
     ·rw[nN,show (⟨#[58]⟩:Str)=⟨[58].toArray⟩ from rfl,b7];simp[dooT]
     ·simp only[dooT,length_cons];lia
   ·rintro σ H' ⟨rfl,rfl,ld⟩;walk_at "rd";show fW [.str ⟨l.toArray⟩] H' _ _;walk_at "rd";refine⟨by lia,hl.2,fun H'' dl=>?_⟩;refine⟨aI (by lia),aI (by lia),?_⟩;have:=k H'' dl;simpa [houT] using this
theorem ER (g:G K mg):g.kD.Ok P w base 3 (sp_shown_way K):=by
 refine g.kD.F.ok Ec (fun vs H Q E h=>?_) (fun Cl A ad s H vs Q E hr h=>?_)
 ·obtain⟨r,e,ss,p,q,rfl,_⟩:=h;rfl
 ·obtain⟨r,e,ss,p,q,rfl,hp,hq,hs,hn,hl,k⟩:=h;refine⟨_,(aB (aE (aF g.jp (Ex g) hr rfl (a8 (px K (pv 0) (aM (v:=sB) rfl g.l9 ⟨_,rfl⟩)) (a8 (cmp1 [] [] (cu (K:=K) rfl (px K (pv 0) (aM (v:=jl) rfl g.iJ ⟨_,rfl⟩))) bX (aF g.cP (dX g) hr rfl (a8 (pv 0) a9))) (a8 (px K (pv 0) (aM (v:=sC) rfl g.lA ⟨_,rfl⟩)) a9)))))),?_⟩;walk_at "rd";refine⟨_,_,.inr hp,rfl,?_⟩;refine⟨_,_,.inr hp,rfl,q,rfl,⟨_,hq⟩,fun p1 BT=>?_⟩;refine yX (zs:=(ss.map wr).map fun l=>V.str ⟨l.toArray⟩) hq (by rw[length_map];exact aI (by lia)) BT (by simp) (fun i x z hx hz H' T sm hT=>?_) (fun H' sm mt=>?_)
  ·rw[List.getElem?_map] at hx hz;rw[List.getElem?_map] at hz;obtain⟨s,dl,rfl⟩:=Option.map_eq_some_iff.mp hx;rw[dl] at hz;simp only[Option.map_some,Option.some.injEq] at hz;subst hz;have ld:=hs s (mem_of_getElem? dl);walk_at "rd";exact⟨ld.1,ld.2,hT⟩
  ·refine⟨_,_,.inr (sm.tup hp),rfl,?_⟩;have hw:(joinT 47 (ss.map wr)).length≤90000:=by
    have:=hl;unfold wayT at this;simp only[length_append] at this;lia
   refine⟨r,e,p1,ss.map wr,rfl,.of mt,hw,?_⟩;rw[<- zv];exact k H' sm
theorem ES (g:G K mg):g.kE.Ok P w base 3 sp_shown_asked:=by
 refine g.kE.F.ok Ed (fun vs H Q E h=>?_) (fun mt A ad s H vs Q E hr h=>?_)
 ·obtain⟨n,o,rfl,_⟩:=h;rfl
 ·obtain⟨n,o,rfl,hk,hn,ho,k⟩:=h;refine⟨_,(aB (aE (b8 (ptm bL (pv 1) aS) (aF g.cP (dX g) hr rfl (a8 (pv 0) a9)) (aD (ah (K:=K) rfl) (aD (ah (K:=K) rfl) (aF g.cP (dX g) hr rfl (a8 (pv 0) a9)) aH) (aF g.cP (dX g) hr rfl (a8 (pv 1) a9)))))),?_⟩;have c1:Str.ofString "="=⟨[61].toArray⟩:=by decide +kernel
  rw[c1];have w1:=bV n;walk_at "rd";cases o with
  |none=>refine ite2 (fun _=>?_) (fun z=>absurd rfl z);refine⟨hn,hk.1.2,fun H' s'=>?_⟩;rw[show pairT (n,none)=wr n by simp[pairT,oT]] at k;exact k H' s'
  |some l=>refine ite2 (fun z=>absurd z (by simp[otV])) (fun _=>?_);have ld:=ho l rfl;have w2:=bV l;rw[show pairT (n,some l)=wr n++[61]++wr l by simp[pairT,oT]] at k;refine⟨hn,hk.1.2,fun H' s'=>?_⟩;refine⟨aI (by simp;lia),?_⟩;show fW [.str ⟨l.toArray⟩] H' _ _;walk_at "rd";refine⟨ld,hk.2 l rfl,fun H'' dl=>⟨aI (by simp;lia),k H'' (s'.trans dl)⟩⟩
theorem ET (g:G K mg):g.kF.Ok P w base 3 sp_shown_mark:=by
 refine g.kF.F.ok Ee (fun vs H Q E h=>?_) (fun dl A ad s H vs Q E hr h=>?_)
 ·obtain⟨o,rfl,_⟩:=h;rfl
 ·obtain⟨o,rfl,ho,k⟩:=h;refine⟨_,(aB (aE (b8 (ptm bL (pv 0) aS) aH (aD (ah (K:=K) rfl) aH (aF g.cP (dX g) hr rfl (a8 (pv 0) a9)))))),?_⟩;have c1:Str.ofString "#"=⟨[35].toArray⟩:=by decide +kernel
  rw[c1];walk_at "rd";cases o with
  |none=>exact ite2 (fun _=>k H (Same.refl _)) (fun z=>absurd rfl z)
  |some l=>refine ite2 (fun z=>absurd z (by simp[otV])) (fun _=>?_);have hl:=ho l rfl;have w:=bV l;show fW [.str ⟨l.toArray⟩] H _ _;rw[show (⟨#[35]⟩:Str)=⟨[35].toArray⟩ from rfl];walk_at "rd";refine⟨hl.1,hl.2,fun H' s'=>⟨aI (by lia),?_⟩⟩;exact k H' s'
theorem EU (g:G K mg):g.kG.Ok P w base 3 sp_are_ends_of_part:=by
 refine g.kG.F.ok Ef (fun vs H Q E h=>?_) (fun dl A ad s H vs Q E hr h=>?_)
 ·obtain⟨a,b,rfl,_⟩:=h;rfl
 ·obtain⟨a,b,rfl,l1,l2,c1,c2,hn,k⟩:=h;refine⟨_,(aB (aE (aj (aF g.dJ (iY g) hr rfl (a8 (pv 0) a9)) (aj (aF g.dJ (iY g) hr rfl (a8 (pv 1) a9)) (ao (pcm bB (aD (ah (K:=K) rfl) (pv 0) (pv 1)) aH)))))),?_⟩;have t1:tx (.str (mkS a))=true:=all_eq_true.mpr (by simpa using c1);have t2:tx (.str (mkS b))=true:=all_eq_true.mpr (by simpa using c2);walk_at "rd";refine⟨_,_,rfl,.str _,ji (by lia),fun H1 s1=>⟨_,rfl,ite2 (fun _=>⟨_,_,rfl,.str _,ji (by lia),fun H2 s2=>⟨_,rfl,ite2 (fun _=>?_) (fun z=>absurd t2 z)⟩⟩) (fun z=>absurd t1 z)⟩⟩;refine⟨Nat.le_trans (Nat.add_le_add (show (mkS a).length≤100 by rw[aU];exact l1) (show (mkS b).length≤100 by rw[aU];exact l2)) (by decide),?_⟩;rw[decide_eq_false (fun z=>hn (bZ.mp z))];exact k H2 (s1.trans s2)
theorem EV (g:G K mg):g.kH.Ok P w base 3 (sp_names_are_unlike K):=by
 refine g.kH.F.ok tT (fun vs H Q E h=>?_) (fun dl A ad s H vs Q E hr h=>?_)
 ·obtain⟨cs,xs,q,rfl,_⟩:=h;rfl
 ·obtain⟨cs,xs,q,rfl,hq,hx,hl,k⟩:=h;refine⟨_,(aC (sx 1 tT.nd (aF g.gl (u0 g) hr rfl (a8 (pv 0) a9)))
   (aB (aE (pcm aO (CF rfl rfl g.tH rfl g.aZ PySem.boot_len (a8 (pv 1) a9)) (aP (ac (K:=K) rfl) rfl g.aZ PySem.boot_len (a8 (pv 1) a9)))))),?_⟩
  walk_at "rd";refine⟨cs,xs,q,rfl,.of hq,hx,hl,fun p1 H1 s1 h1=>?_⟩;have hgl:=d7 cs;refine⟨p1,(gapsM cs).map mkS,rfl,by rw[h1,map_map];rfl,by rw[length_map];lia,?_⟩;walk_at "rd";refine⟨_,.inl (.of h1),?_⟩;have e:decide ((((fstU ((gapsM cs).map mkS)).length:Nat):Int)=(((gapsM cs).map tV).length:Int))=decide ((gapsM cs).Nodup):=by have h2:=(gS _ ((gapsM cs).map mkS) rfl).2;rw[CY,length_map] at h2;rw[decide_eq_decide,length_map,<- h2];lia
  rw[e];exact k H1 s1
theorem EW (g:G K mg):g.kI.Ok P w base 3 (sp_step_fits K):=by
 refine g.kI.F.ok Eg (fun vs H Q E h=>?_) (fun mt A ld s H vs Q E hr h=>?_)
 ·obtain⟨c,s,p,rfl,_⟩:=h;rfl
 ·obtain⟨c,s,p,rfl,hp,hs,hh,ht,k⟩:=h;refine⟨_,(aC (aJ (aR (aF g.dG (iV g) hr rfl (a8 (pv 1) a9)))
    (aB (aE bA)) aK)
   (aC (aJ (ptm aO (px K (pv 0) aA) aH)
    (aB (aE (pcm aO (pv 1) (px K (pv 0) aA)))) aK)
   (aC (aJ (ptm aO (px K (pv 0) aA) aH)
    (aB (aE (aF g.jy (EH g) hr rfl (a8 (pv 0) (a8 (pv 1) a9))))) aK)
   (aC (aJ (ptm aO (px K (pv 0) aA) aH)
    (aB (aE (aF g.jz (EI g) hr rfl (a8 (pv 1) a9)))) aK)
   (aB (aE (b8 (ptm aO (px K (pv 0) aA) aH) (aF g.gm (uA g) hr rfl (a8 (pv 1) a9)) bA))))))),?_⟩
  walk_at "rd";refine⟨s,rfl,_,rfl,?_⟩;have kk:=k;by_cases dl:isDot s=true
  ·rw[if_pos dl];have e:fitsM c s=false:=by unfold fitsM;rw[dl];rfl
   rw[e] at k;exact k H (Same.refl _)
  rw[if_neg dl];have ad:isDot s=false:=by simpa using dl
  refine⟨_,_,.inr hp,c.at0,?_⟩;refine L2.aX.mpr ⟨_,rfl,?_⟩;rw[jR];cases c with
  |step w=>
   refine ite2 (fun _=>⟨_,_,.inr hp,aG (j:=1) rfl,?_⟩) (fun z=>absurd rfl z);refine L2.aX.mpr ?_;have e:fitsM (.step w) s=decide ((⟨s.toArray⟩:Str)=⟨w.toArray⟩):=by unfold fitsM;rw[ad];show decide (s=w)=_;exact decide_eq_decide.mpr ar.symm
   rw[<- e];exact k H (Same.refl _)
  |part h n t=>
   refine ite2 (fun z=>by cases z) (fun _=>⟨_,_,.inr hp,Pc.at0 _,?_⟩);refine L2.aX.mpr ⟨_,rfl,?_⟩;rw[cK];refine ite2 (fun _=>?_) (fun z=>absurd rfl z);have e:fitsM (.part h n t) s=partB h t s:=by unfold fitsM;rw[ad];rfl
   exact⟨h,n,t,s,p,rfl,hp,hs,hh,ht,by rw[<- e];exact k H (Same.refl _)⟩
  |num n=>
   refine ite2 (fun z=>by cases z) (fun _=>⟨_,_,.inr hp,Pc.at0 _,?_⟩);refine L2.aX.mpr ⟨_,rfl,?_⟩;rw[cK];refine ite2 (fun z=>by cases z) (fun _=>⟨_,_,.inr hp,Pc.at0 _,?_⟩);refine L2.aX.mpr ⟨_,rfl,?_⟩;rw[cL];refine ite2 (fun _=>?_) (fun z=>absurd rfl z);have e:fitsM (.num n) s=numB s:=by unfold fitsM;rw[ad];rfl
   exact⟨s,rfl,hs,fun H' sm=>by rw[<- e];exact k H' sm⟩
  |word n=>
   refine ite2 (fun z=>by cases z) (fun _=>⟨_,_,.inr hp,Pc.at0 _,?_⟩);refine L2.aX.mpr ⟨_,rfl,?_⟩;rw[cK];refine ite2 (fun z=>by cases z) (fun _=>⟨_,_,.inr hp,Pc.at0 _,?_⟩);refine L2.aX.mpr ⟨_,rfl,?_⟩;rw[cL];refine ite2 (fun z=>by cases z) (fun _=>⟨_,_,.inr hp,Pc.at0 _,?_⟩);refine L2.aX.mpr ⟨_,rfl,?_⟩;rw[jS];refine ite2 (fun _=>?_) (fun z=>absurd rfl z);have e:fitsM (.word n) s=wordB s:=by unfold fitsM;rw[ad];rfl
   exact⟨s,rfl,hs,fun H' sm=>by rw[<- e];exact k H' sm⟩
  |_=>refine ite2 (fun z=>by cases z) (fun _=>⟨_,_,.inr hp,Pc.at0 _,?_⟩);refine L2.aX.mpr ⟨_,rfl,?_⟩;rw[cK];refine ite2 (fun z=>by cases z) (fun _=>⟨_,_,.inr hp,Pc.at0 _,?_⟩);refine L2.aX.mpr ⟨_,rfl,?_⟩;rw[cL];refine ite2 (fun z=>by cases z) (fun _=>⟨_,_,.inr hp,Pc.at0 _,?_⟩);refine L2.aX.mpr ⟨_,rfl,?_⟩;rw[jS];refine ite2 (fun z=>by cases z) (fun _=>?_);have e:=k H (Same.refl _);unfold fitsM at e;rw[ad] at e;exact e
theorem EX (g:G K mg):g.kJ.Ok P w base 3 (sp_refuse_others K):=by
 refine g.kJ.F.ok iQ (fun vs H Q E h=>?_) (fun Fx A dl s H vs Q E hr h=>?_)
 ·obtain⟨cs,xs,p,q,pz,cl,ws,ys,rfl,_⟩:=h;rfl
 ·obtain⟨cs,xs,p,q,pz,cl,ws,ys,rfl,hp,hq,hx,hn,mt,hw,Fr,hO,k⟩:=h;refine⟨_,(aC (sx 2 iQ.nd (aF g.gl (u0 g) hr rfl (a8 (px K (pv 0) (aM (v:=cN) rfl g.cA ⟨_,rfl⟩)) a9)))
   (aB (bO PassesOwn.never rfl (cY (K:=K) rfl (pv 1)) (dq (n:=2) (K:=K) rfl rfl (bS (pgn 3 iQ.nd) (bS (pgn 4 iQ.nd) cm)))
   (aB (aJ (bv (C3 (K:=K) rfl) (pv 3) (pv 2) (by with_unfolding_all rfl))
    (aB bN) aK))))),?_⟩
  walk_at "rd";refine⟨_,_,.inr hp,rfl,cs,xs,q,rfl,hq,hx,by lia,fun p1 H1 s1 Cl=>⟨⟨_,.of (s1 _ _ mt)⟩,?_⟩⟩;have hgl:=d7 cs;refine ix (xs:=ys) (fun i σ H'=>Same H1 H'∧(∀w∈ws.take i,w.1∈gapsM cs)∧∃v3 v4,σ=[some (.ref p),some (.ref pz),some (.ref p1),v3,v4]) ⟨Same.refl _,(fun w hw=>by rw[take_zero] at hw;cases hw),none,none,rfl⟩ (fun i σ H' _ h=>.of ((s1.trans h.1) _ _ mt)) ?_ ?_
  ·rintro i x σ H2 BT ⟨s2,ad,v3,v4,rfl⟩;obtain⟨n,d,b,v,h1,rfl,h3,h4⟩:=hw.get BT;have Fn:=s1.trans s2;walk_at "rd";refine⟨b,_,rfl,.of (Fn _ _ h3),rfl,_,_,rfl,_,_,rfl,rfl,p1,_,rfl,.inl (.of (s2 _ _ Cl)),rfl,?_,_,rfl,?_⟩
   ·exact all_eq_true.mpr fun y hy=>by obtain⟨z,_,rfl⟩:=mem_map.mp hy;rfl
   have e:inV (tV n) ((gapsM cs).map tV)=decide (n∈gapsM cs):=Az n (gapsM cs);rw[e];by_cases hg:n∈gapsM cs
   ·rw[decide_eq_true hg];refine ite2 (fun z=>absurd z (by decide)) (fun _=>⟨s2,fun w ld=>?_,_,_,rfl,rfl⟩);rw[take_add_one,h1] at ld;rcases mem_append.mp ld with z|z
    ·exact ad w z
    ·have:w=(n,d):=by simpa using z
     rw[this];exact hg
   ·rw[oy h1 ad hg] at hO;cases hO
  ·rintro σ H2 ⟨s2,ad,v3,v4,rfl⟩;exact k H2 (s1.trans s2)
theorem EY (g:G K mg):g.kK.Ok P w base 3 (sp_taken_door K g.aV):=by
 refine g.kK.F.ok lK (fun vs H Q E h=>?_) (fun FN A Fn s H vs Q E hr h=>?_)
 ·obtain⟨p,t,w,r,i,o,rfl,_⟩:=h;rfl
 ·obtain⟨p,t,w',r,i,o,rfl,ad,hi,hl,FG,hd,hw,FB,hh,k⟩:=h;refine⟨_,(aC (aJ (ak (aR (bJ (pv 0) g.aW g.bc (bq g) (hr.mono (by decide)) g.bb .nil pass0 (a8 aH a9))))
    (aB (aE aS)) aK)
   (aC (aJ (ak (aR (bJ (pv 0) g.aW g.eW (iZ g) (hr.mono (by decide)) g.eO .nil pass0 (a8 (aM (v:=eG) rfl g.iG ⟨_,rfl⟩) a9))))
    (aB bN) aK)
   (aC (sx 1 lK.nd (bD jG rfl g.cB cG (a8 (cV (pv 0) g.aW g.dO (fX g) (hr.mono (by decide)) g.dM .nil pass0) a9)))
   (aC (da PassesOwn.never (PW.pt (cS (ptm bT (pv 1) aA) (cS (aR (bJ (pv 0) g.aW g.eW (iZ g) (hr.mono (by decide)) g.eO .nil pass0 (a8 (aM (v:=eG) rfl g.iG ⟨_,rfl⟩) a9))) (cj (ptm cF (aF g.gi (tq g) hr rfl (a8 (pv 1) (a8 (pv 0) a9))) (aM (v:=Dq) rfl g.sv ⟨_,rfl⟩))))))
   (aC (sx 1 lK.nd (aF g.gi (tq g) hr rfl (a8 (pv 1) (a8 (pv 0) a9))))
   (aB (bH (cV (pv 0) g.aW g.dO (fX g) (hr.mono (by decide)) g.dM .nil pass0)))))
   (aB (aE (pv 1))))))),?_⟩
  have eF:eG=.str ⟨fgS.toArray⟩:=by show V.str (Str.ofString _)=_;unfold fgS;simp
  have e1:Str.ofString ":"=⟨[58].toArray⟩:=by decide +kernel
  rw[eF,e1];walk_at "rd";cases o with
  |none=>have hw:w'=[]:=hw;subst hw;refine af ad (ci ad hi hl hd (hh rfl) ⟨_,rfl,?_⟩);rw[if_pos rfl];exact k H (SameBut.refl _ _) ad
  |some n=>
   obtain⟨ds,rfl,FC,Fx,rfl,FL,hz⟩:=hw;refine af ad (bd (w:=[58]) (r:=ds++r) ad hi hl hd fun H1 s1 c1 Fr Cl=>⟨_,rfl,?_⟩);rw[if_neg (by decide)];cases ds with
   |nil=>exact absurd rfl FC
   |cons d0 ds0=>
   have FF:=Fx d0 (mem_cons_self ..);obtain⟨hx,FI⟩:=gK Cl;refine af c1 ⟨p,t,fgS,_,rfl,c1,Fr,hl,_,rfl,?_⟩;rw[cJ hx,decide_eq_true (gN.mpr FF),if_neg (by decide)];refine af c1 ⟨p,t,_,d0,rfl,c1,hx,hl,fun H2 s2 c2=>⟨_,_,rfl,by show 1≤640;decide,oC d0 (by lia) FF.1,?_⟩⟩;have FM:=s1.trans s2;have FH:valD [d0]=d0 - 48:=by unfold valD;simp
   rw[<- FH];refine dj (fun m σ H'=>∃(dn es:List Nat),m=es.length∧σ=[some (.ref p),some (.int (valD dn:Nat))]∧dn≠[]∧d0::ds0=dn++es∧SameBut p H H'∧Cur H' g.aV p t (i+1+dn.length)) ds0.length ⟨[d0],ds0,rfl,rfl,by simp,rfl,FM,c2⟩ ?_;rintro m σ H3 ⟨dn,es,rfl,rfl,Fy,dl,s3,c3⟩;have Fz:t.drop (i+1+dn.length)=es++r:=by rw[<- drop_drop,show i+1=i+[58].length from rfl,Cl,dl,append_assoc,drop_left]
   have FE:i+1+dn.length≤t.length:=by have:=congrArg List.length Cl;rw[length_drop,dl,length_append,length_append] at this;simp only[length_singleton] at this Fr;lia
   have FJ:valD dn≤65535:=by have:=gO es dn;rw[<- dl] at this;lia
   have mt:es=[]->Q (.int (valD dn:Nat)) H3:=fun e=>by subst e;rw[append_nil] at dl;rw[dl] at k;refine k H3 s3 ?_;rw[show i+(58::dn).length=i+1+dn.length by simp only[length_cons];lia];exact c3
   walk_at "rd";have ld:valD dn=0->es=[]:=fun e=>by
    rcases hz with z|z
    ·rw[z] at dl;have:=congrArg List.length dl;have h1:0 < dn.length:=length_pos_iff.mpr Fy;rw[length_append] at this;simp only[length_singleton] at this;exact length_eq_zero_iff.mp (by lia)
    ·cases dn with
     |nil=>exact absurd rfl Fy
     |cons a b=>
      have e0:d0=a:=by injection dl
      subst e0;have h9:d0≠48:=fun z'=>z (by rw[z'];rfl);have:=oB (ds:=d0::b) rfl (by lia);lia
   by_cases h0:valD dn=0
   ·rw[if_neg (by lia)];exact mt (ld h0)
   rw[if_pos (by lia)];refine af c3 ⟨p,t,fgS,_,rfl,c3,FE,hl,_,rfl,?_⟩;cases es with
   |nil=>
    have hb:seesB t fgS (i+1+dn.length)=false:=by
     cases hc:t[i+1+dn.length]? with
     |none=>exact jJ hc
     |some c=>rw[cJ hc];refine decide_eq_false fun FD=>FB c ?_ (gN.mp FD);rw[<- hc,<- List.head?_drop,Fz];rfl
    rw[hb,if_neg (by decide)];exact mt rfl
   |cons c es1=>
    have hc:=Fx c (by rw[dl];simp);obtain⟨BT,FA⟩:=gK Fz;have FK:valD dn * 10+(c - 48)≤65535:=by have:=gO es1 (dn++[c]);rw[cb,append_assoc,show [c]++es1=c::es1 from rfl,<- dl] at this;lia
    rw[cJ BT,decide_eq_true (gN.mpr hc),if_pos rfl];refine⟨p,t,_,c,valD dn,rfl,c3,hl,BT,hc.1,hc.2,by lia,_,_,rfl,rfl,_,rfl,?_⟩;rw[decide_eq_true (by lia),if_pos rfl];refine⟨_,fun _ _ h=>h,p,t,_,c,valD dn,rfl,c3,hl,BT,hc.1,hc.2,by lia,af c3 ⟨p,t,_,c,rfl,c3,BT,hl,fun H4 s4 c4=>⟨es1.length,Nat.lt_succ_self _,dn++[c],es1,rfl,by rw[cb],by simp,by rw[dl,append_assoc];rfl,s3.trans s4,?_⟩⟩⟩;rw[length_append];exact c4
theorem EZ (g:G K mg):g.kL.Ok P w base 3 (sp_taken_pair K g.aV):=by
 refine g.kL.F.ok lL (fun vs H Q E h=>?_) (fun Fr A dl s H vs Q E hr h=>?_)
 ·obtain⟨p,t,r,i,a,b,c,rfl,_⟩:=h;rfl
 ·obtain⟨p,t,r,i,a,b,c,rfl,ad,hd,hs,hl,k⟩:=h;refine⟨_,(aC (aJ (ak (aR (bJ (pv 0) g.aW g.eW (iZ g) (hr.mono (by decide)) g.eO .nil pass0 (a8 (aM (v:=sD) rfl g.tG ⟨_,rfl⟩) a9))))
    (aB bN) aK)
   (aC (sx 1 lL.nd (aD (ah (K:=K) rfl) (cV (pv 0) g.aW g.dO (fX g) (hr.mono (by decide)) g.dM .nil pass0) (ay (cr (K:=K) rfl) (bC (pv 0) rfl) (au (bC (pv 0) rfl)) (au (aD (ah (K:=K) rfl) (bC (pv 0) rfl) aA)))))
   (aC (sx 2 lL.nd (aF g.gj (tw g) hr rfl (a8 (pv 1) a9)))
   (aC (aJ (ptm bL (pv 2) aS)
    (aB bN) aK)
   (aC (bH (cV (pv 0) g.aW g.dO (fX g) (hr.mono (by decide)) g.dM .nil pass0))
   (aB (aE (pv 2)))))))),?_⟩
  obtain⟨hf,ha,hb,Fn⟩:=jI hs;have BT:i+2≤t.length:=by have:=congrArg List.length hd;rw[length_drop] at this;simp only[length_cons] at this;lia
  have ld:t[i]?=some a:=by rw[<- List.head?_drop,hd];rfl
  have Cl:t[i+1]?=some b:=by rw[<- List.head?_drop,<- drop_drop,hd];rfl
  have eF:sD=.str ⟨[50,51,52,53,54,55].toArray⟩:=by show V.str (Str.ofString "234567")=_;rw[show Str.ofString "234567"=⟨[50,51,52,53,54,55].toArray⟩ by decide +kernel]
  have hf:a∈[50,51,52,53,54,55]:=by rw[show (Str.ofString "234567").cps.toList=[50,51,52,53,54,55] by decide +kernel] at hf;exact hf
  walk_at "rd";rw[eF];refine af ad ⟨p,t,_,i,rfl,ad,by lia,hl,_,rfl,?_⟩;rw[cJ ld,decide_eq_true hf,if_neg (by decide)];refine af ad ⟨p,t,i,a,rfl,ad,ld,hl,fun H1 s1 c1=>?_⟩;refine cZ c1 g.aW g.c9 (bz c1 g.aW g.bR ⟨_,rfl,bz c1 g.aW g.bR ?_⟩);walk_at "rd";rw[show ((i+1:Nat):Int)+1=((i+2:Nat):Int) by lia,g9,show i+2 - (i+1)=1 by lia,<- drop_drop,hd,show List.take 1 (List.drop 1 (a::b::r))=[b] from rfl];walk_at "rd";refine⟨aI hl,by decide,by decide,fun d mt=>?_,?_⟩
  ·simp only[mem_cons,not_mem_nil,or_false] at mt;rcases mt with rfl|rfl
   ·exact ha
   ·exact hb
  rw[show signOfL [a,b]=signOf a b from rfl,mh,hs,if_neg (by intro z;cases z)];exact af c1 ⟨p,t,i+1,b,rfl,c1,Cl,hl,fun H2 s2 c2=>k H2 (s1.trans s2) c2⟩
theorem F0 (g:G K mg):g.kM.Ok P w base 3 (sp__law_address K):=by
 refine g.kM.F.ok bW (fun vs H Q E h=>?_) (fun FW A FB s H vs Q E hr h=>?_)
 ·obtain⟨pc,is,gg,rfl,_⟩:=h;rfl
 ·obtain⟨pc,is,gg,rfl,dl,FV,FT,FS,FR,k⟩:=h;refine⟨_,(aC (sx 3 bW.nd (px K (pv 0) aA))
   (aC (sx 4 bW.nd aH)
   (ae (aJ (PW.pt (am (aR (pv 2)) (ax (ptm aO (aD aT (pv 3) aA) aA))))
    (aB (sx 4 bW.nd (px K (aw (a8 aH (a8 aH (a8 aH a9)))) (aD aT (aD ai (pv 3) aA) aA)))) aK)
   (aC (sx 5 bW.nd aS)
   (aC (sx 6 bW.nd aS)
   (ae (aJ (PW.pt (cS (ptm aO (aD aT (aD ai (pv 3) aA) aA) aA) (cj (PW.pt (am (ptm bB (pv 4) aH) (ax (ptm aO (aD aT (aD ai (pv 3) aA) aA) aA)))))))
    (aC (sx 5 bW.nd (aF g.ba (cE g) hr rfl (a8 (aD ai (pv 3) aA) (a8 (aD (aQ (K:=K)) aA (aD aT (aD ai (pv 3) aA) aA)) a9))))
   (aB (sx 6 bW.nd (px K (aw (a8 aS (a8 (aD aT (aD ai (pv 3) aA) aA) a9))) (aD aT (aD ai (pv 3) aA) aA))))) aK)
   (aC (sx 7 bW.nd (ck (pcm bB (pv 4) aH) (ck (pcm mN (pv 5) aS) (ao (pcm aO (aD aT (aD ai (pv 3) aA) aA) aA)))))
   (ae (sx 8 bW.nd (bD (cv (K:=K) rfl) rfl g.bn bw (a8 (cmp1 ["_law_signs_here","_law_cells_here"] [1,0] (bu rfl g.bo (a8 (aD aT (px K (pv 0) aA) aA) a9)) bX (aF g.k9 (EM g) hr rfl (a8 (px K (pv 2) (aD (aQ (K:=K)) aA (pv 0))) (a8 (pv 1) a9)))) a9)))
   (aC (sx 9 bW.nd (px K (aw (a8 (pv 7) (a8 (pcm aO (aD aT (aD ai (px K (pv 0) aA) aA) aA) aA) a9))) (bD ff rfl g.cB cG (a8 (pcm (bx hr.units) (pv 8) (al a9)) a9))))
   (ae (sx 10 bW.nd (px K (aw (a8 aS (a8 (aF g.ba (cE g) hr rfl (a8 (px K (pv 0) aA) (a8 (aD aT (px K (pv 0) aA) aA) a9))) a9))) (aD aT (aD ai (px K (pv 0) aA) aA) aA)))
   (aB (aE (al (a8 (pv 4) (a8 (pv 5) (a8 (pv 6) (a8 (al (a8 (pv 7) (a8 (pv 8) (a8 (pv 9) a9)))) (a8 (aF g.gn (uB g) hr rfl (a8 (px K (pv 0) aA) a9)) (a8 (pv 10) a9))))))))))))))))))),?_⟩
  walk_at "rd";have ad:∀j,j < 7->∃z:Int,(is.map V.int)[j]?=some (.int z):=fun j hj=>⟨is[j],by rw[List.getElem?_map,List.getElem?_eq_getElem (by lia)];rfl⟩;have md:∀(z b:Int),0 < b->∃m:Nat,(m:Int) < b∧z % b=(m:Int):=fun z b hb=>by have h1:=Int.emod_nonneg z (show b≠0 by lia);have h2:=Int.emod_lt_of_pos z hb;exact⟨(z % b).toNat,by lia,by lia⟩
  obtain⟨z0,FK⟩:=ad 0 (by decide);refine⟨_,_,.inl (.of dl),aG (j:=0) FK,?_⟩;walk_at "rd";refine⟨fun σ H1=>Same H H1∧∃sc:List Nat,σ=[some (.ref pc),some (tV gg),some (.bl true),some (.int z0),some (tV sc),none,none,none,none,none,none]∧sc≠[]∧sc.length≤8∧(∀c∈sc,isAln c=true)∧∀c∈sc.take 1,isLet c=true,⟨by decide,fun p1 H1 n1 s1 e1=>⟨⟨by decide,by decide⟩,by decide,?_⟩⟩,?_⟩
  ·obtain⟨m,hm,em⟩:=md (z0 / 4) 3 (by decide);rw[em];obtain⟨sc,FL,h1⟩:∃sc:List Nat,atI [V.str (Str.ofString "web"),V.str (Str.ofString "x1"),V.str (Str.ofString "Ab")] (m:Int)=some (tV sc)∧sc≠[]∧sc.length≤8∧(∀c∈sc,isAln c=true)∧∀c∈sc.take 1,isLet c=true:=by
    match m,hm with
    |0,_=>exact⟨[119,101,98],aG (j:=0) (by decide +kernel),by decide⟩
    |1,_=>exact⟨[120,49],aG (j:=1) (by decide +kernel),by decide⟩
    |2,_=>exact⟨[65,98],aG (j:=2) (by decide +kernel),by decide⟩
   exact⟨_,_,.inl (.of e1),FL,s1,sc,rfl,h1⟩
  rintro σ H1 ⟨s1,sc,rfl,FD,FO,FN,FM⟩;walk_at "rd";have eN:¬ (⟨sc.toArray⟩:Str)=⟨#[]⟩:=fun z=>FD (bZ.mp z);refine⟨fun σ H2=>Same H1 H2∧∃(ho:Option (List Nat)) (dr:Option Int),σ=[some (.ref pc),some (tV gg),some (.bl true),some (.int z0),some (tV sc),some (otV ho),some (itV dr),none,none,none,none]∧(∀l,ho=some l->0 < l.length∧Tx 60 l)∧∀i,dr=some i->(0≤i∧i≤65535)∧ho≠none,?_,?_⟩
  ·refine⟨⟨by decide,by decide⟩,by decide,ite2 (fun _=>ite2 (fun _=>?_) (fun z=>absurd eN z)) (fun _=>⟨Same.refl _,none,none,rfl,(fun l z=>by cases z),fun i z=>by cases z⟩)⟩;obtain⟨m,hm,em⟩:=md (z0 / 72) 3 (by decide);obtain⟨d,hd,ed⟩:=md (z0 / 72) 65536 (by decide);obtain⟨b,hb,eb⟩:=md (z0 / 24) 2 (by decide);rw[em,ed,eb,show (1:Int)+(m:Int)=((1+m:Nat):Int) by lia];refine⟨⟨by decide,by decide⟩,⟨by decide,by decide⟩,by decide,z0 / 72,1+m,rfl,by lia,fun l hl hs=>⟨⟨by decide,by decide⟩,by decide,by decide,fun p2 H2 n2 s2 e2=>⟨⟨by decide,by decide⟩,by decide,?_⟩⟩⟩;obtain⟨dr,hv,Fy⟩:∃dr:Option Int,atI [V.non,V.int (d:Int)] (b:Int)=some (itV dr)∧∀i,dr=some i->0≤i∧i≤65535:=by
    match b,hb with
    |0,_=>exact⟨none,aG (j:=0) rfl,fun i z=>by cases z⟩
    |1,_=>exact⟨some d,aG (j:=1) rfl,fun i z=>by cases z;lia⟩
   exact⟨_,_,.inl (.of e2),hv,s2,some l,dr,rfl,(fun l' z=>by cases z;exact⟨by lia,by lia,hs⟩),fun i z=>⟨Fy i z,fun y=>by cases y⟩⟩
  rintro σ H2 ⟨s2,ho,dr,rfl,FQ,Fy⟩;have FA:=s1.trans s2;obtain⟨z4,FC⟩:=ad 4 (by decide);obtain⟨m,hm,em⟩:=md z4 4 (by decide);walk_at "rd";refine ite2 (fun _=>?_) (fun z=>absurd eN z);refine⟨fun σ H3=>Same H2 H3∧∃(ss:List (List Nat)) (ps:Addr),σ=[some (.ref pc),some (tV gg),some (.bl true),some (.int z0),some (tV sc),some (otV ho),some (itV dr),some (.bl true),some (.ref ps),none,none]∧H3 ps=some (.tup (ss.map tV))∧ss.length≤3∧∀x∈ss,0 < x.length∧Tx 60 x,⟨_,_,.inl (.of (FA _ _ dl)),aG (j:=4) FC,?_⟩,?_⟩
  ·walk_at "rd";rw[em];refine⟨by decide,by lia,by lia,fun p3 n3=>?_⟩;rw[Int.toNat_natCast];refine oQ (fun i ys H'=>SameBut p3 H2 H'∧∃ss:List (List Nat),ys=ss.map tV∧ss.length=i∧∀x∈ss,0 < x.length∧Tx 60 x) (aI (by lia)) ⟨bg.trans (SameBut.refl _ _),[],rfl,rfl,fun x hx=>by cases hx⟩ (fun i ys H3 T hi hJ h3 hT=>?_) (fun ys H3 hJ h3=>?_)
   ·obtain⟨sb,ss,rfl,Fn,ld⟩:=hJ;obtain⟨zi,FI⟩:=ad (1+i) (by lia);have BT:=FA.trans (sb.same n3);walk_at "rd";refine⟨_,_,.inl (.of (BT _ _ dl)),by rw[show (1:Int)+(0+(i:Int))=((1+i:Nat):Int) by lia];exact aG FI,zi,gg,rfl,FT,FS,FR,fun l h1 h2 h4=>hT _ H3 h3 ⟨sb.trans bg,ss++[l],by rw[map_append];rfl,by rw[length_append,length_singleton,Fn],fun x hx=>?_⟩⟩;rcases mem_append.mp hx with z|z
    ·exact ld x z
    ·rw[mem_singleton.mp z];exact⟨length_pos_iff.mpr h1,by lia,h4⟩
   ·obtain⟨sb,ss,rfl,Fn,ld⟩:=hJ;walk_at "rd";exact⟨_,.inl (.of h3),fun l H4 s4 e4=>⟨(sb.same n3).trans s4,ss,e4,by lia,ld⟩⟩
  rintro σ H3 ⟨s3,ss,ps,rfl,FE,Fn,ld⟩;have BT:=FA.trans s3;walk_at "rd";refine⟨_,_,.inl (.of (BT _ _ dl)),aG (j:=4) FC,?_⟩;walk_at "rd";refine⟨⟨by decide,by decide⟩,by decide,?_⟩;refine⟨by decide,fun p4 H4 n4 s4 e4=>⟨by decide,fun p5 H5 n5 s5 e5=>?_⟩⟩;have Fz:=s4.trans s5;have FH:SeqAt.shaped (.tuple (ss.map st))=true:=(LayAt.tup (n:=0) fun d hd=>by obtain⟨x,hx,rfl⟩:=mem_map.mp hd;exact .st (ld x hx).2.2).shaped (by decide)
  refine⟨.tuple (ss.map st),.tuple [],.tup (Fz _ _ FE) (gR ss),.tup e5 .nil,FH,by decide +kernel,?_⟩;rw[zc,List.isEmpty_map];obtain⟨en,FU,Fx⟩:∃en:Bool,atI [V.bl true,V.bl (decide (z4 / 4 % 2=0))] (if ss.isEmpty=false then 1 else 0)=some (.bl en)∧(ss=[]->en=true):=by
   cases ss with
   |nil=>exact⟨true,aG (j:=0) rfl,fun _=>rfl⟩
   |cons x r=>exact⟨_,aG (j:=1) rfl,fun z=>by cases z⟩
  walk_at "rd";refine⟨_,_,.inl (.of (s5 _ _ e4)),FU,?_⟩;obtain⟨z5,Cl⟩:=ad 5 (by decide);obtain⟨a,ha,ea⟩:=md z5 4 (by decide);have mt:=BT.trans Fz;refine⟨fun σ H6=>Same H5 H6∧∃mk:Option (List Nat),σ=[some (.ref pc),some (tV gg),some (.bl true),some (.int z0),some (tV sc),some (otV ho),some (itV dr),some (.bl true),some (.ref ps),some (.bl en),some (otV mk)]∧∀l,mk=some l->Tx 60 l,⟨_,_,.inl (.of (mt _ _ dl)),aG (j:=5) Cl,_,_,.inl (.of (mt _ _ dl)),aG (j:=5) Cl,?_⟩,?_⟩
  ·walk_at "rd";rw[ea];refine⟨by decide,z5,a,rfl,by lia,fun l hl hs=>⟨by decide,fun p6 H6 n6 s6 e6=>⟨_,_,.inl (.of ((mt.trans s6) _ _ dl)),aG (j:=5) Cl,?_⟩⟩⟩;obtain⟨b,hb,eb⟩:=md (z5 / 4) 2 (by decide);walk_at "rd";rw[eb];obtain⟨mk,Fr,FP⟩:∃mk:Option (List Nat),atI [V.non,tV l] (b:Int)=some (otV mk)∧∀x,mk=some x->Tx 60 x:=by
    match b,hb with
    |0,_=>exact⟨none,aG (j:=0) rfl,fun x z=>by cases z⟩
    |1,_=>exact⟨some l,aG (j:=1) rfl,fun x z=>by cases z;exact⟨by lia,hs⟩⟩
   exact⟨⟨by decide,by decide⟩,by decide,_,_,.inl (.of e6),Fr,s6,mk,rfl,FP⟩
  rintro σ H6 ⟨s6,mk,rfl,Fr⟩;walk_at "rd";obtain⟨z6,FJ⟩:=ad 6 (by decide);refine⟨by decide,fun p7 H7 n7 s7 e7=>⟨_,_,.inl (.of ((mt.trans (s6.trans s7)) _ _ dl)),aG (j:=6) FJ,z6,rfl,fun qs v H8 hq s8 hv=>⟨by decide,fun p9 H9 n9 s9 e9=>?_⟩⟩⟩;have FF:=s8.trans s9;have FG:=Fz.trans (s6.trans (s7.trans FF));refine k ⟨sc,ho,dr,true,ss,en,qs,mk⟩ _ H9 ⟨⟨FO,FN,FM⟩,FQ,Fy,⟨by show ss.length≤50;lia,ld⟩,fun _=>rfl,Fx,fun ps e=>⟨by have:=(hq ps e).1.1;lia,fun p hp=>⟨⟨((hq ps e).2 p hp).1.1,by have:=((hq ps e).1.2 p hp).1;lia,((hq ps e).2 p hp).1.2⟩,fun v ev=>⟨((hq ps e).1.2 p hp).2 v ev,((hq ps e).2 p hp).2 v ev⟩⟩⟩,Fr⟩ FD (BT.trans FG) ?_;exact .tup e9 (.cons (.str _) (.cons (bY _) (.cons (jA _) (.cons (.tup (FF _ _ e7) (.cons (.bl _) (.cons (.tup (FG _ _ FE) (pd ss)) (.cons (.bl _) .nil)))) (.cons (hv.mono s9.toT) (.cons (bY _) .nil))))))
theorem F1 (g:G K mg):g.kN.Ok P w base 3 sp__law_piece_text:=by
 refine g.kN.F.ok lM (fun vs H Q E h=>?_) (fun Cl A ld s H vs Q E hr h=>?_)
 ·obtain⟨c,n,rfl,_⟩:=h;rfl
 ·obtain⟨c,n,rfl,hn,k⟩:=h;refine⟨_,(aC (aJ (ptm aO (aD aT (pv 0) aA) aA)
    (aB (aE (aF g.eK (lW g) hr rfl (a8 (aF g.dL (ia g) hr rfl (a8 (aD ai (pv 0) aA) a9)) a9)))) aK)
   (aC (aJ (ptm aO (aD aT (pv 0) aA) aA)
    (aC (sx 2 lM.nd (aF g.ba (cE g) hr rfl (a8 (aD ai (pv 0) aA) (a8 (aD aT (aD ai (pv 0) aA) aA) a9))))
   (aC (sx 3 lM.nd (aF g.ba (cE g) hr rfl (a8 (aD ai (pv 0) aA) (a8 (aD (aQ (K:=K)) (bD ff rfl g.cB cG (a8 (pcm aO (pv 2) aH) a9)) (aD aT (aD ai (pv 0) aA) aA)) a9))))
   (aB (aE (aD (aQ (K:=K)) (aD (aQ (K:=K)) (aD (aQ (K:=K)) (aD (aQ (K:=K)) (aF g.eK (lW g) hr rfl (a8 (pv 2) a9)) aH) (pv 1)) aH) (aF g.eK (lW g) hr rfl (a8 (pv 3) a9))))))) aK)
   (aB (aE (aD (aQ (K:=K)) (aD (aQ (K:=K)) aH (pv 1)) aH))))),?_⟩
  have b1:Str.ofString "{"=⟨[123].toArray⟩:=by decide +kernel
  have b2:Str.ofString "}"=⟨[125].toArray⟩:=by decide +kernel
  rw[b1,b2];walk_at "rd";have md:∀(z b:Int),0 < b->∃m:Nat,(m:Int) < b∧z % b=(m:Int):=fun z b hb=>by have h1:=Int.emod_nonneg z (show b≠0 by lia);have h2:=Int.emod_lt_of_pos z hb;exact⟨(z % b).toNat,by lia,by lia⟩
  have hn8:=hn.1.2;refine⟨by decide,ite2 (fun h0=>⟨⟨by decide,by decide⟩,_,rfl,fun l hl=>⟨l,rfl,hl.2.2.1,by have:=hl.2.1;lia,k (.step l) (wr l) (.inl ⟨h0,l,rfl,hl⟩) (.step (bj hl.2.2.1) hl.1) (by have:=bV l;have:=hl.2.1;lia)⟩⟩) (fun h0=>⟨by decide,ite2 (fun h1=>?_) (fun h1=>?_)⟩)⟩
  ·obtain⟨a,ha,ea⟩:=md (c / 3) 3 (by decide);obtain⟨b,hb,eb⟩:=md (c / 9) 2 (by decide);rw[ea,eb];refine⟨⟨by decide,by decide⟩,⟨by decide,by decide⟩,by decide,c / 3,a,rfl,by lia,fun h hh dl=>⟨⟨by decide,by decide⟩,aX.mpr ?_⟩⟩;walk_at "rd";obtain⟨m,hm,em,BT⟩:∃m:Nat,m≤2∧(if (⟨h.toArray⟩:Str)=⟨#[]⟩ then 1 else 0)+(b:Int)=(m:Int)∧(h=[]->1≤m):=by
    by_cases hz:h=[]
    ·exact⟨1+b,by lia,by rw[if_pos (bZ.mpr hz)];lia,fun _=>by lia⟩
    ·exact⟨b,by lia,by rw[if_neg (fun z=>hz (bZ.mp z))];lia,fun z=>absurd z hz⟩
   rw[em];refine⟨⟨by decide,by decide⟩,by decide,c / 7,m,rfl,by lia,fun t ht ad=>⟨h,rfl,dl,by lia,?_⟩⟩;have w1:=bV h;have w2:=bV t;refine bP.mpr ⟨aI (by rw[aU];show _+1≤_;lia),?_⟩;show rAddS K (.str (⟨(wr h).toArray⟩++⟨[123].toArray⟩)) _ _ _;rw[b7];refine bP.mpr ⟨aI (by rw[aU,aU,length_append,length_singleton];lia),?_⟩;rw[b7];refine bP.mpr ⟨aI (by rw[aU,length_append,length_append,length_singleton];show _+1≤_;lia),?_⟩;show sp__law_written _ _ (fun y H2=>rAddS K (.str (⟨(wr h++[123]++n).toArray⟩++⟨[125].toArray⟩)) y H2 Q) _;rw[b7];refine⟨t,rfl,ad,by lia,bP.mpr ⟨aI (by rw[aU,aU,length_append,length_append,length_append,length_singleton,length_singleton];lia),?_⟩⟩;rw[b7];have mt:h++t≠[]:=fun z=>by obtain⟨z1,z2⟩:=List.append_eq_nil_iff.mp z;have:=BT z1;rw[z2] at ht;simp at ht;lia
   have e:wr h++[123]++n++[125]++wr t=wr h++123::(n++125::wr t):=by simp
   rw[e];exact k (.part h n t) _ (.inr ⟨h0,rfl,rfl,rfl,⟨by lia,by lia,dl,ad,mt⟩,.inl ⟨h,t,rfl,by lia,by lia⟩⟩) (.part (bj dl) (bj ad) mt hn) (by rw[length_append,length_cons,length_append,length_cons];lia)
  ·exact⟨aI (by lia),aI (by lia),k (.gap n) _ (.inr ⟨h0,rfl,rfl,rfl,True.intro,.inr rfl⟩) (.gap hn) (by rw[length_cons,length_append,length_singleton];lia)⟩
theorem F2 (g:G K mg):g.kO.Ok P w base 3 (sp__law_values K):=by
 refine g.kO.F.ok dS (fun vs H Q E h=>?_) (fun FC A BT s H vs Q E hr h=>?_)
 ·obtain⟨a,lg,ns,s,gs,r,rfl,_⟩:=h;rfl
 ·obtain⟨a,lg,ns,ad,gs,r,rfl,hS,Fr,FB,k⟩:=h;refine⟨_,(aC (sx 4 dS.nd (aw a9))
   (aC (bO PassesOwn.never rfl (Bw (K:=K) rfl rfl g.lC (a8 (pv 2) a9)) (dq (n:=2) (K:=K) rfl rfl (bS (pgn 5 dS.nd) (bS (pgn 6 dS.nd) cm)))
   (aC (sx 7 dS.nd (aF g.dL (ia g) hr rfl (a8 (aF g.bQ (be g) hr rfl (a8 (pv 0) (a8 (aD (aQ (K:=K)) (pv 1) (pv 5)) a9))) a9)))
   (ae (aJ (ptm aO (pv 6) (pv 3))
    (aB (sx 7 dS.nd (aw (a8 (pv 7) (a8 (aF g.dL (ia g) hr rfl (a8 (aD (aQ (K:=K)) (aF g.bQ (be g) hr rfl (a8 (pv 0) (a8 (aD (aQ (K:=K)) (pv 1) aA) a9))) (pv 5)) a9)) a9))))) aK)
   (aB (bH (aq (K:=K) rfl PySem.F.plainAttrs_list PySem.F.slot_list_append PySem.F.type_list_append bU (pv 4) (a8 (al (a8 (pv 6) (a8 (pv 7) a9))) a9)))))))
   (aB (aE (pv 4))))),?_⟩
  walk_at "rd";refine⟨by decide,fun l H1 n1 s1 hl=>⟨lg,_,rfl,.of (s1 _ _ Fr),?_⟩⟩;refine By (xs:=gs.map tV) (fun i σ H'=>Same H H'∧∃(bs:List (List Nat×Vl)) (ys:List V) (v5 v6 v7:Option V),σ=[some (.ref a),some (.int (ad:Int)),some (.ref lg),some (tV r),some (.ref l),v5,v6,v7]∧bs.map (·.1)=gs.take i∧(∀b∈bs,VlOf r b.1 b.2)∧H' l=some (.lst ys)∧BndV H' l bs ys) ⟨s1,[],[],none,none,none,rfl,rfl,(fun b hb=>by cases hb),hl,.nil⟩ (fun i σ H' _ h=>.of (h.1 _ _ Fr)) ?_ ?_;rotate_left
  ·rintro σ H3 ⟨s3,bs,ys,v5,v6,v7,rfl,dl,hv,ld,hB⟩;walk_at "rd";rw[length_map,take_length] at dl;exact k bs l ys H3 dl hv n1 s3 ld hB
  rintro i v σ H3 T Fn ⟨s3,bs,ys,v5,v6,v7,rfl,dl,hv,ld,hB⟩ hT;rw[List.getElem?_map] at Fn;obtain⟨n,hn,rfl⟩:=Option.map_eq_some_iff.mp Fn;have hi:i < gs.length:=(List.getElem?_eq_some_iff.mp hn).1;have sT:Same H3 (upd H3 T (.tup [.int (i:Int),tV n])):=av hT;walk_at "rd";refine⟨T,_,rfl,.of aL,rfl,_,_,rfl,_,_,rfl,rfl,?_⟩;generalize upd H3 T (.tup [.int (i:Int),tV n])=H4 at sT;have u4:=s3.trans sT;walk_at "rd";refine⟨a,ns,ad+i,by rw[show (ad:Int)+(i:Int)=((ad+i:Nat):Int) by lia],u4.seq hS,_,rfl,fun x hx=>?_⟩;refine⟨fun σ H5=>Same H4 H5∧∃(y:Vl) (v:V),σ=[some (.ref a),some (.int (ad:Int)),some (.ref lg),some (tV r),some (.ref l),some (.int (i:Int)),some (tV n),some v]∧VlOf r n y∧VlV H5 y v∧∀q,v=.ref q->q≠l,ite2 (fun e=>?_) (fun e=>⟨Same.refl _,.txt x,_,rfl,.inr ⟨fun z=>e (by rw[z]),x,rfl,hx⟩,rfl,fun q z=>by cases z⟩),?_⟩
  ·refine⟨a,ns,ad+6,by rw[show (ad:Int)+6=((ad+6:Nat):Int) by lia],u4.seq hS,?_⟩;walk_at "rd";refine⟨_,rfl,fun x2 Fy=>⟨by decide,fun p5 H5 n5 s5 e5=>⟨s5,.lst [x,x2],.inl ⟨ar.mp e,x,x2,rfl,hx,Fy⟩,⟨p5,rfl,e5⟩,fun q z=>?_⟩⟩⟩;subst z;exact fun z=>by rw[z,sT _ _ ld] at n5;cases n5
  rintro σ H5 ⟨s5,y,v,rfl,hy,Fz,Cl⟩;have Fx:=sT.trans s5;have mt:=Fx _ _ ld;walk_at "rd";refine⟨⟨_,.of mt⟩,by decide,fun p6 H6 n6 s6 e6=>⟨_,s6 _ _ mt,Nat.lt_of_le_of_lt (show ys.length≤100 by have h7:=hB.length;have h8:=congrArg List.length dl;rw[length_map,length_take] at h8;lia) (by decide),cx n1 ((u4.trans s5).trans s6),bs++[(n,y)],_,_,_,_,⟨rfl,rfl,rfl⟩,by rw[map_append,dl,take_add_one,hn];rfl,fun c hc=>?_,aL,?_⟩⟩
  ·rcases mem_append.mp hc with z|z
   ·exact hv c z
   ·rw[mem_singleton.mp z];exact hy
  ·have FA:p6≠l:=fun z=>by rw[z,mt] at n6;cases n6
   exact BndV.snoc (by rw[aN FA];exact e6) ((Fz.mono s6).upd Cl) Cl ((hB.mono (Fx.trans s6)).upd (s6 _ _ mt))
theorem lY (g:G K mg):FnOk P w K mg base CX0 4 g.i7 g.eQ ["text","free"] tN:=by
 refine g.eR.ok dU (fun vs H Q E h=>?_) (fun FC A Fr s H vs Q E hr h=>?_)
 ·obtain⟨l,fr,rfl,_⟩:=h;rfl
 ·obtain⟨l,fr,rfl,hl,ha,k⟩:=h;refine⟨_,(aC (sx 2 dU.nd (lr a9))
   (aC (sx 3 dU.nd aA)
   (aC (da PassesOwn.never (ptm de (pv 3) (aP (ac (K:=K) rfl) rfl g.aZ PySem.boot_len (a8 (pv 0) a9)))
   (aC (sx 4 dU.nd (b8 (ptm aO (px K (pv 0) (pv 3)) aH) aA aA))
   (aC (sx 5 dU.nd (aF g.kA (EN g) hr rfl (a8 (ay (cr (K:=K) rfl) (pv 0) (au (pv 3)) (au (aD (ah (K:=K) rfl) (pv 3) (pv 4)))) (a8 (pv 1) a9))))
   (aC (aJ (ptm bL (pv 5) aS)
    (aB (aE aS)) aK)
   (aC (bH (aq (K:=K) rfl PySem.F.plainAttrs_list PySem.F.slot_list_append PySem.F.type_list_append bU (pv 2) (a8 (pv 5) a9)))
   (aB (sx 3 dU.nd (aD (ah (K:=K) rfl) (pv 3) (pv 4)))))))))
   (aB (aE (aq (K:=K) rfl PySem.F.plainAttrs_str PySem.F.slot_str_join PySem.F.type_str_join (di (K:=K) rfl) aH (a8 (pv 2) a9))))))),?_⟩
  walk_at "rd";refine⟨by decide,fun q hq=>?_⟩;refine dj (fun m σ H'=>∃(p:Nat) (dn:List Nat) (v4 v5:Option V),m=l.length - p∧σ=[some (.str ⟨l.toArray⟩),some (.str ⟨fr.toArray⟩),some (.ref q),some (.int (p:Int)),v4,v5]∧p≤l.length∧dn.length≤p ∧
   H' q=some (.lst (dn.map one))∧Same H H'∧und fr l=(und fr (l.drop p)).map (dn++·)) l.length ⟨0,[],none,none,by simp,rfl,Nat.zero_le _,Nat.le_refl _,aL,zQ hq,by simp⟩ ?_
  rintro m σ H' ⟨p,dn,v4,v5,rfl,rfl,hp,FB,mt,sm,hu⟩;walk_at "rd";refine⟨aI (by lia),ite2 (fun h=>?_) (fun h=>?_)⟩
  ·have FA:p < l.length:=by lia
   refine⟨_,fun _ _ h=>h,?_⟩;have hc:l[p]?=some l[p]:=List.getElem?_eq_getElem FA;generalize l[p]=c at hc;have hd:=zS hc;refine⟨c,aI (by lia),aG hc,?_⟩;have ld:∀y,Same H (upd H' q (.lst y)):=fun y b o e=>by rw[aN (aY e hq)];exact sm _ _ e
   have BT:(dn.map one).length < sizeLine:=by rw[length_map];exact Nat.lt_of_le_of_lt (show dn.length≤2000 by lia) (by decide)
   refine ite2 (fun h2=>?_) (fun h2=>?_)
   ·have ad:c=126:=by have:=ar.mp h2;injection this
    subst ad;refine⟨aI (by lia),?_⟩;rw[show ((p:Int)+3)=((p+3:Nat):Int) by lia,g9,show p+3 - p=3 by lia,hd,List.take_succ_cons];refine c_sw.mpr ⟨by rw[length_take];lia,fun d Fn=>?_,.inl rfl,?_⟩
    ·rcases mem_cons.mp Fn with rfl|q'
     ·decide
     ·exact ha d (List.mem_of_mem_drop (List.mem_of_mem_take q'))
    rw[mn];have dl:(l.drop p).length=l.length - p:=length_drop;rw[hd] at dl;generalize l.drop (p+1)=r at hd dl ⊢;rw[length_cons] at dl;by_cases Fy:2≤r.length
    ·obtain⟨a,b,r',rfl⟩:∃a b r',r=a::b::r':=by
      match r,Fy with
      |a::b::r',_=>exact⟨a,b,r',rfl⟩
     rw[show signOfL (List.take 2 (a::b::r'))=oV (sgO a b) from mh a b];rw[length_cons,length_cons] at dl;cases e:sgO a b with
     |none=>have k2:=k H' sm;rw[hu,hd,zK e] at k2;exact k2
     |some d=>rw[if_neg (by intro z;cases z)];refine⟨⟨_,SqL.of mt⟩,dn.map one,mt,BT,l.length - (p+3),by lia,p+3,dn++[d],_,_,rfl,rfl,by lia,by rw[length_append,length_singleton];lia,?_,ld _,zT hu hd e⟩;rw[aL];exact congrArg (fun z=>some (HO.lst z)) (mw dn d)
    ·have Cl:r.length < 2:=by lia
     have k2:=k H' sm;rw[hu,hd,zL Cl] at k2;rw[show signOfL (List.take 2 r)=V.non from ma (by rw[length_take];lia)];exact k2
   ·have ad:c≠126:=fun z=>h2 (by rw[z]);refine⟨aI (by lia),?_⟩;rw[show ((p:Int)+1)=((p+1:Nat):Int) by lia,g9,show p+1 - p=1 by lia,hd,List.take_succ_cons,take_zero];refine c_sw.mpr ⟨by simp,fun d Fn=>?_,.inr rfl,?_⟩
    ·rw[mem_singleton.mp Fn];exact ha c (mem_of_getElem? hc)
    rw[mq ad];by_cases hb:(isPl c || decide (c∈fr))=true
    ·rw[if_pos hb,if_neg (by intro z;cases z)];refine⟨⟨_,SqL.of mt⟩,dn.map one,mt,BT,l.length - (p+1),by lia,p+1,dn++[c],_,_,rfl,rfl,by lia,by rw[length_append,length_singleton];lia,?_,ld _,zU hu hd ad hb⟩;rw[aL];exact congrArg (fun z=>some (HO.lst z)) (mw dn c)
    ·rw[if_neg hb,if_pos rfl];have k2:=k H' sm;rw[hu,hd,zM ad hb] at k2;exact k2
  ·have Fz:p=l.length:=by lia
   rw[Fz,List.drop_length,mi] at hu;have Fx:und fr l=some dn:=by rw[hu];simp
   refine⟨dn.map fun c=>⟨[c].toArray⟩,SqL.of (by rw[mt,map_map];rfl),?_,?_⟩
   ·rw[mv];simp only[length_map,length_nil,Nat.mul_zero,Nat.add_zero];lia
   ·rw[j4,mr];have k2:=k H' sm;rw[Fx] at k2;exact k2
theorem F3 (g:G K mg):g.kP.Ok P w base 4 (sp_shown_question K):=by
 refine g.kP.F.ok Ei (fun vs H Q E h=>?_) (fun Fr A ad s H vs Q E hr h=>?_)
 ·obtain⟨q,v,rfl,_⟩:=h;rfl
 ·obtain⟨q,v,rfl,hI,hq,hl,k⟩:=h;refine⟨_,(aC (aJ (ptm bL (pv 0) aS)
    (aB (aE aH)) aK)
   (aB (aE (aD (ah (K:=K) rfl) aH (aq (K:=K) rfl PySem.F.plainAttrs_str PySem.F.slot_str_join PySem.F.type_str_join (di (K:=K) rfl) aH (a8 (nn (K:=K) (fx:=[]) (fr:=[]) rfl rfl rfl (by decide +kernel) rfl (by decide +kernel) rfl rfl (by decide +kernel) rfl .nil rfl (cu (K:=K) rfl (pv 0)) (fun _ _ _=>bX) (fun _ _ _=>(aF g.kE (ES g) hr rfl (a8 (pv 0) (a8 (pv 1) a9))))) a9)))))),?_⟩
  have c1:Str.ofString "?"=⟨[63].toArray⟩:=by decide +kernel
  have c2:Str.ofString "&"=⟨[38].toArray⟩:=by decide +kernel
  rw[c1,c2];walk_at "rd";cases q with
  |none=>cases hI;exact ite2 (fun _=>k H (Same.refl _)) (fun z=>absurd rfl z)
  |some ps=>
   obtain⟨p,xs,rfl,hp,r⟩:=dw hI;refine ite2 (fun z=>by cases z) (fun _=>?_);obtain⟨Fn,dl⟩:=hq ps rfl;have BT:=r.length;rw[length_map] at BT;refine⟨p,rfl,⟨_,hp⟩,fun p1 mt=>?_⟩;refine Aw (f:=fun i=>match ps[i]? with|some p=>(.str ⟨p.1.toArray⟩,otV p.2)|none=>(.non,.non)) (zs:=(ps.map pairT).map fun l=>V.str ⟨l.toArray⟩) hp (aI (by lia)) mt (by simp;lia) (fun i x H' hx sm=>?_) (fun i z hi hz H' T sm hT=>?_) (fun H' sm ld=>?_)
   ·have hi:i < ps.length:=by have:=(List.getElem?_eq_some_iff.mp hx).1;lia
    have he:ps[i]?=some ps[i]:=by simp[hi]
    obtain⟨b,x1,x2,rfl,hb,b1,b2⟩:=isK2 (oH r (by rw[List.getElem?_map,he];rfl) hx);cases gH b1;cases jE b2;refine⟨b,rfl,?_⟩;rw[he];exact sm.tup hb
   ·have hi:i < ps.length:=by lia
    have he:ps[i]?=some ps[i]:=by simp[hi]
    rw[List.getElem?_map,List.getElem?_map,he] at hz;simp only[Option.map_some,Option.some.injEq] at hz;subst hz;obtain⟨k1,k2,k3⟩:=dl ps[i] (getElem_mem hi);rw[he];walk_at "rd";exact⟨ps[i].1,ps[i].2,rfl,k1,k2,k3,hT⟩
   ·walk_at "rd";have hj:=nQ (sep:=38) (ps.map pairT);have Cl:(queT (some ps)).length=(joinT 38 (ps.map pairT)).length+1:=by simp[queT]
    refine⟨(ps.map pairT).map fun l=>⟨l.toArray⟩,by rw[map_map (f:=fun l:List Nat=>(⟨l.toArray⟩:Str)) (g:=V.str)];exact .of ld,?_,?_⟩
    ·rw[nT,length_map];have:((ps.map pairT).map List.length).sum+(ps.map pairT).length≤(joinT 38 (ps.map pairT)).length+1:=hj;lia
    rw[show (⟨#[38]⟩:Str)=⟨[38].toArray⟩ from rfl,nO,show (⟨#[63]⟩:Str)=⟨[63].toArray⟩ from rfl];walk_at "rd";refine⟨aI (by lia),?_⟩;have:=k H' sm;simpa [queT] using this
theorem F4 (g:G K mg):g.kQ.Ok P w base 4 (sp_is_piece K):=by
 refine g.kQ.F.ok Ej (fun vs H Q E h=>?_) (fun dl A ad s H vs Q E hr h=>?_)
 ·obtain⟨c,v,rfl,_⟩:=h;rfl
 ·obtain⟨c,v,rfl,hv,ok,hn,k⟩:=h;refine⟨_,(aC (aJ (PW.pt (am (ak (aR (aP bM rfl g.bE bK (a8 (pv 0) (a8 (bG (v:=.ty "tuple") rfl g.bn bw rfl) a9))))) (am (ptm aO (aP (ac (K:=K) rfl) rfl g.aZ PySem.boot_len (a8 (pv 0) a9)) aA) (ax (ak (aR (aP bM rfl g.bE bK (a8 (px K (pv 0) aA) (a8 (bG (v:=.ty "str") rfl g.cC cH rfl) a9)))))))))
    (aB (aE bA)) aK)
   (aC (aJ (ptm aO (px K (pv 0) aA) aH)
    (aB (aE (aj (aF g.dF (iU g) hr rfl (a8 (pv 0) (a8 aA a9))) (aj (aF g.eM (lX g) hr rfl (a8 (px K (pv 0) aA) a9)) (ao (dZ (aF g.dG (iV g) hr rfl (a8 (px K (pv 0) aA) a9)))))))) aK)
   (aC (aJ (ptm aO (px K (pv 0) aA) aH)
    (aB (aE (aj (aF g.dF (iU g) hr rfl (a8 (pv 0) (a8 aA a9))) (aj (aF g.gk (tz g) hr rfl (a8 (px K (pv 0) aA) a9)) (ao (aF g.kG (EU g) hr rfl (a8 (px K (pv 0) aA) (a8 (px K (pv 0) aA) a9)))))))) aK)
   (aB (aE (aj (fb (nY (K:=K) rfl) (px K (pv 0) aA) (aM (v:=.ref g.iK) rfl g.t7 rfl) (by with_unfolding_all rfl)) (aj (aF g.dF (iU g) hr rfl (a8 (pv 0) (a8 aA a9))) (ao (aF g.gk (tz g) hr rfl (a8 (px K (pv 0) aA) a9)))))))))),?_⟩
  obtain⟨p,rfl,hp⟩:=jf hv.is;have i0:=hv.is;have hq:SqT K H p c.vals:=.of hp;walk_at "rd";refine⟨_,L2.dm hp,ite2 (fun z=>absurd z (by decide)) (fun _=>⟨_,.inr hq,ite2 (fun z=>absurd z (by show ¬ (((_+1:Nat):Int)=0);lia)) (fun _=>⟨_,_,.inr hq,c.at0,⟨_,L2.iy,ite2 (fun z=>absurd z (by decide)) (fun _=>⟨_,_,.inr hq,c.at0,aX.mpr ⟨_,rfl,?_⟩⟩)⟩⟩)⟩)⟩;rw[jR];rcases D2 c with⟨s,rfl⟩|⟨a,n,t,rfl⟩|⟨h1,h2,h3,h4⟩
  ·refine ite2 (fun _=>⟨_,_,_,rfl,i0,_,rfl,ite2 (fun _=>⟨_,_,.inr hq,aG (j:=1) rfl,_,_,rfl,.str _,ji (by have:=ok.2.1;lia),fun H1 s1=>⟨_,rfl,ite2 (fun _=>⟨_,_,.inr (s1.tup hq),aG (j:=1) rfl,s,rfl,_,rfl,?_⟩) (fun z=>absurd ?_ z)⟩⟩) (fun z=>absurd (gU (n:=2).mpr rfl) z)⟩) (fun z=>absurd rfl z)
   ·rw[ok.2.2.2];exact k H1 s1
   ·show (s.all isSg && decide (0 < (mkS s).length))=true;rw[aU,decide_eq_true ok.1,all_eq_true.mpr ok.2.2.1];rfl
  ·refine ite2 (fun z=>by cases z) (fun _=>⟨_,_,.inr hq,aG (j:=0) rfl,aX.mpr ⟨_,rfl,ite2 (fun _=>⟨_,_,_,rfl,i0,_,rfl,ite2 (fun _=>⟨_,_,.inr hq,aG (j:=2) rfl,n,rfl,hn rfl,fun H1 s1=>⟨_,rfl,ite2 (fun _=>⟨_,_,.inr (s1.tup hq),aG (j:=1) rfl,_,_,.inr (s1.tup hq),aG (j:=3) rfl,a,t,rfl,ok.1,ok.2.1,ok.2.2.1,ok.2.2.2.1,ok.2.2.2.2,fun H2 s2=>k H2 (s1.trans s2)⟩) (fun z=>absurd rfl z)⟩⟩) (fun z=>absurd (gU (n:=4).mpr rfl) z)⟩) (fun z=>absurd (decide_eq_true rfl) z)⟩⟩)
  ·have hw:c.vals=[.str c.kw,tV c.name]:=by unfold Pc.vals;rw[h3]
   rw[hw] at hq;rw[h1];refine ite2 (fun z=>by cases z) (fun _=>⟨_,_,.inr hq,aG (j:=0) rfl,aX.mpr ⟨_,rfl,?_⟩⟩);rw[cK,h2];refine ite2 (fun z=>by cases z) (fun _=>⟨_,_,.inr hq,aG (j:=0) rfl,_,kwN.map V.str,rfl,.inr (pR (ss:=kwN) (g.t8 H)),rfl,rfl,_,rfl,?_⟩);rw[if_neg (show ¬ false=true by decide),jd];exact ite2 (fun _=>⟨_,_,_,rfl,i0,_,rfl,ite2 (fun _=>⟨_,_,.inr hq,aG (j:=1) rfl,_,rfl,hn h1,k⟩) (fun z=>absurd (by cases c <;> first|exact gU (n:=2).mpr rfl|cases h2) z)⟩) (fun z=>absurd (decide_eq_true h4) z)
theorem uC (g:G K mg):g.gp.Ok P w base 4 (sp_fits K):=by
 refine g.gp.F.ok lO (fun vs H Q E h=>?_) (fun FD A BT s H vs Q E hr h=>?_)
 ·obtain⟨cs,xs,p,q,pw,ps,cl,r,e,ss,rfl,_⟩:=h;rfl
 ·obtain⟨cs,xs,p,q,pw,ps,cl,r,e,ss,rfl,hp,hq,hx,hn,hz,hw,Fn,Fy,Fz,k⟩:=h;refine⟨_,(aC (sx 2 lO.nd (px K (pv 1) (aM (v:=jl) rfl g.iJ ⟨_,rfl⟩)))
   (ae (sx 3 lO.nd (aF g.jx (EG g) hr rfl (a8 (pv 0) (a8 (aP (ac (K:=K) rfl) rfl g.aZ PySem.boot_len (a8 (pv 2) a9)) a9))))
   (aC (aJ (PW.pt (am (ptm bL (pv 3) aS) (am (ak (aR (px K (pv 1) (aM (v:=sB) rfl g.l9 ⟨_,rfl⟩)))) (ax (ptm bB (px K (pv 1) (aM (v:=sC) rfl g.lA ⟨_,rfl⟩)) (px K (pv 0) (aM (v:=ge) rfl g.fQ ⟨_,rfl⟩)))))))
    (aB (aE bA)) aK)
   (aB (aE (aP (dk (K:=K) rfl rfl) rfl g.dQ PyProof.Rows.boot_all (a8 (nn (K:=K) (fx:=[]) (fr:=[]) rfl rfl rfl (by decide +kernel) rfl (by decide +kernel) rfl rfl (by decide +kernel) rfl .nil rfl (Bm (K:=K) rfl rfl g.tI (a8 (pv 3) (a8 (pv 2) a9))) (fun _ _ _=>bX) (fun _ _ _=>(aF g.kI (EW g) hr rfl (a8 (pv 0) (a8 (pv 1) a9))))) a9))))))),?_⟩
  walk_at "rd";refine⟨_,_,.inr hw,aG (j:=1) rfl,?_⟩;refine⟨fun σ H1=>Same H H1∧((spreadM cs ss.length=none∧σ=[some (.ref p),some (.ref pw),some (.ref ps),some .non])∨∃(ds:List Pc) (ys:List V) (r':Addr),spreadM cs ss.length=some ds∧SqT K H1 r' ys∧PcAll K H1 ds ys∧σ=[some (.ref p),some (.ref pw),some (.ref ps),some (.ref r')]),?_,?_⟩
  ·walk_at "rd";refine⟨_,.inr Fn,?_⟩;rw[length_map];exact⟨cs,xs,p,q,cl,ss.length,rfl,hp,hq,hx,hn,Fy,fun h=>⟨Same.refl _,.inl ⟨h,rfl⟩⟩,fun ds ys r' H1 h s1 h1 h2=>⟨s1,.inr ⟨ds,ys,r',h,h1,h2,rfl⟩⟩⟩
  rintro σ H1 ⟨s1,⟨h0,rfl⟩|⟨ds,ys,r',h0,Cl,hy,rfl⟩⟩
  ·walk_at "rd";have e:fitsP cs cl r ss e=false:=by unfold fitsP;rw[h0]
   rw[e] at k;exact k H1 s1
  have ef:fitsP cs cl r ss e=(r && decide (e=cl) && (List.zipWith fitsM ds ss).all id):=by unfold fitsP;rw[h0]
  have Fx:=s1.tup hw;have FC:=s1.tup hp;have mt:=s1.tup Fn;walk_at "rd";refine⟨_,_,.inr Fx,aG (j:=0) rfl,r,rfl,?_⟩;cases r with
  |false=>refine ite2 (fun _=>?_) (fun z=>absurd rfl z);rw[ef] at k;exact k H1 s1
  |true=>
   refine ite2 (fun z=>by cases z) (fun _=>?_);refine⟨_,_,.inr Fx,aG (j:=2) rfl,_,_,.inr FC,aG (j:=1) rfl,?_⟩;refine L2.mO.mpr ⟨_,rfl,?_⟩;by_cases ld:e=cl
   ·rw[decide_eq_true ld] at ef;refine ite2 (fun z=>by rw[decide_eq_true ld] at z;cases z) (fun _=>?_);refine⟨r',ps,ys,ss.map tV,⟨rfl,rfl⟩,Cl,mt,fun pc nc=>?_⟩;have FB:=hy.length;have hdl:=oj h0;refine Bp (zs:=(List.zipWith fitsM ds ss).map V.bl) Cl mt (aI (by rw[length_map,List.length_zipWith];lia)) nc (by rw[length_map,List.length_zipWith,length_map,FB]) (fun i x y z Fr ad dl H2 T s2 hT=>?_) (fun H2 s2 e2=>?_)
    ·obtain⟨c,p',hc,rfl,FA⟩:=hy.get Fr;obtain⟨s,hs,rfl⟩:∃s,ss[i]?=some s∧tV s=y:=by
      rw[List.getElem?_map] at ad;cases hs:ss[i]? with
      |none=>rw[hs] at ad;cases ad
      |some s=>rw[hs] at ad;exact⟨s,rfl,by simpa using ad⟩
     have dl:V.bl (fitsM c s)=z:=by rw[List.getElem?_map,List.getElem?_zipWith,hc,hs] at dl;simpa using dl
     subst dl;obtain⟨z1,z2⟩:=hz c (BU h0 c (mem_of_getElem? hc));walk_at "rd";exact⟨c,s,p',rfl,s2.tup FA,Fz s (mem_of_getElem? hs),z1,z2,hT⟩
    ·refine⟨pc,_,rfl,.of e2,?_⟩;rw[ef] at k;exact k H2 (s1.trans s2)
   ·rw[decide_eq_false ld] at ef;refine ite2 (fun _=>?_) (fun z=>by rw[decide_eq_false ld] at z;exact absurd rfl z);rw[ef] at k;exact k H1 s1
theorem F5 (g:G K mg):g.kR.Ok P w base 4 (sp_can_be_step K):=by
 refine g.kR.F.ok Ek (fun vs H Q E h=>?_) (fun dl A ad s H vs Q E hr h=>?_)
 ·obtain⟨d,v,rfl,_⟩:=h;rfl
 ·obtain⟨d,v,rfl,hv,hs,k⟩:=h;refine⟨_,(aB (aE (aj (aF g.eM (lX g) hr rfl (a8 (pv 0) a9)) (ao (dZ (aF g.dG (iV g) hr rfl (a8 (pv 0) a9))))))),?_⟩;walk_at "rd";refine⟨d,v,rfl,hv,hs,fun H1 s1=>⟨_,rfl,?_⟩⟩;have k1:=k H1 s1;cases hv with
  |str z=>
   have e:canD (.str z)=(ftx (.str z) && !isDot z.cps.toList):=rfl;rw[e] at k1;refine ite2 (fun hf=>?_) (fun hf=>?_)
   ·rw[hf,Bool.true_and] at k1;exact⟨z.cps.toList,rfl,_,rfl,k1⟩
   ·rw[Bool.eq_false_iff.mpr hf,Bool.false_and] at k1;exact k1
  |_=>exact ite2 (fun z=>by cases z) (fun _=>k1)
theorem F6 (g:G K mg):g.kS.Ok P w base 4 (sp_taken_scheme K g.aV):=by
 refine g.kS.F.ok tU (fun vs H Q E h=>?_) (fun Cl A mt s H vs Q E hr h=>?_)
 ·obtain⟨p,t,rfl,_⟩:=h;rfl
 ·obtain⟨p,t,rfl,ad,hl,k⟩:=h;refine⟨_,(aC (sx 1 tU.nd (px K (aq (K:=K) rfl PySem.F.plainAttrs_str PySem.F.slot_str_partition PySem.F.type_str_partition gI (bC (pv 0) rfl) (a8 aH a9)) aA))
   (aC (aJ (PW.pt (am (ptm aO (pv 1) aH) (am (ak (aR (aF g.kB (EO g) hr rfl (a8 (pv 1) a9)))) (ax (ak (aR (bJ (pv 0) g.aW g.bc (bq g) (hr.mono (by decide)) g.bb .nil pass0 (a8 (aD (ah (K:=K) rfl) (pv 1) aH) a9))))))))
    (aB (aE aH)) aK)
   (aB (aE (pv 1))))),?_⟩
  have e1:Str.ofString ":"=⟨[58].toArray⟩:=by decide +kernel
  rw[e1];walk_at "rd";refine cZ ad g.aW g.c9 ⟨rfl,ny.mpr ⟨by decide,aI (show t.length≤100000 by lia),fun q hq=>?_⟩⟩;rw[show (⟨#[58]⟩:Str)=⟨[58].toArray⟩ from rfl,AM];have dl:=av (o:=.tup [.str ⟨(ahead t).toArray⟩,.str (Txt.partition ⟨t.toArray⟩ ⟨[58].toArray⟩).2.1,.str (Txt.partition ⟨t.toArray⟩ ⟨[58].toArray⟩).2.2]) hq;have BT:(upd H q (.tup [.str ⟨(ahead t).toArray⟩,.str (Txt.partition ⟨t.toArray⟩ ⟨[58].toArray⟩).2.1,.str (Txt.partition ⟨t.toArray⟩ ⟨[58].toArray⟩).2.2])) q=some (.tup [.str ⟨(ahead t).toArray⟩,.str (Txt.partition ⟨t.toArray⟩ ⟨[58].toArray⟩).2.1,.str (Txt.partition ⟨t.toArray⟩ ⟨[58].toArray⟩).2.2]):=aL;generalize upd H q (.tup [.str ⟨(ahead t).toArray⟩,.str (Txt.partition ⟨t.toArray⟩ ⟨[58].toArray⟩).2.1,.str (Txt.partition ⟨t.toArray⟩ ⟨[58].toArray⟩).2.2])=H1 at dl BT ⊢;have c1:=ad.same dl;have hal:=AX t;walk_at "rd";refine⟨_,_,.inr (.of BT),rfl,?_⟩;rw[L2.aX];refine⟨_,rfl,?_⟩;by_cases h1:ahead t=[]
  ·rw[decide_eq_true (by rw[h1]),if_pos rfl];obtain⟨z1,z2⟩:=gP (t:=t) (fun z=>z.1 h1);have:=k H1 dl.but (by rw[z2];exact c1);rw[z1] at this;exact this
  rw[decide_eq_false (fun z=>h1 (bZ.mp z)),if_neg (by decide)];refine⟨.str ⟨(ahead t).toArray⟩,_,rfl,.str _,by simp[smallD,Str.length];lia,fun H2 s2=>⟨_,rfl,?_⟩⟩;have c2:=c1.same s2;have ld:=dl.trans s2;cases h2:schD (.str ⟨(ahead t).toArray⟩) with
  |false=>rw[if_pos rfl];obtain⟨z1,z2⟩:=gP (t:=t) (fun z=>by rw[h2] at z;cases z.2.1);have:=k H2 ld.but (by rw[z2];exact c2);rw[z1] at this;exact this
  |true=>
   rw[if_neg (by decide)];refine af c2 ?_;rw[show (⟨#[58]⟩:Str)=⟨[58].toArray⟩ from rfl];walk_at "rd";refine⟨aI (by simp;lia),?_⟩;by_cases h3:t[(ahead t).length]?=some 58
   ·obtain⟨z1,z2⟩:=oG h1 h2 h3;have ht:=(oF t).mpr h3;refine bd (w:=ahead t++[58]) (r:=t.drop (ahead t++[58]).length) c2 (Nat.zero_le _) (by lia) ?_ fun H3 s3 c3 _ _=>⟨_,rfl,?_⟩
    ·rw[drop_zero]
     conv=>lhs;rw[<- take_append_drop (ahead t++[58]).length t,ht]
    rw[if_neg (by decide)];have:=k H3 (ld.but.trans s3) (by rw[z2];rw[Nat.zero_add] at c3;exact c3);rw[z1] at this;exact this
   ·obtain⟨z1,z2⟩:=gP (t:=t) (fun z=>h3 z.2.2);refine lV (w:=ahead t++[58]) c2 (Nat.zero_le _) (by lia) (by rw[drop_zero];exact fun z=>h3 ((oF t).mp z)) ⟨_,rfl,?_⟩;rw[if_pos rfl];have:=k H2 ld.but (by rw[z2];exact c2);rw[z1] at this;exact this
theorem dY (g:G K mg):FnOk P w K mg base CX0 4 g.iA g.eT ["cursor","free","most"] (sp_taken_text K g.aV):=by
 refine g.cQ.ok lP (fun vs H Q E h=>?_) (fun FM A FA s H vs Q E hr h=>?_)
 ·obtain⟨p,t,fr,s,w,r,i,mo,rfl,_⟩:=h;rfl
 ·obtain⟨p,t,fr,s,w',r,i,mo,rfl,Fn,hi,hl,Fr,FL,hd,hw,FC,FI,k⟩:=h;refine⟨_,(aC (sx 3 lP.nd (lr a9))
   (aC (sx 4 lP.nd (aD (ah (K:=K) rfl) (aD (ah (K:=K) rfl) (aM (v:=gc) rfl g.iH ⟨_,rfl⟩) (pv 1)) aH))
   (aC (da PassesOwn.never (PW.pt (cS (PW.pt (am (ptm bL (pv 2) aS) (ax (ptm de (aP (ac (K:=K) rfl) rfl g.aZ PySem.boot_len (a8 (pv 3) a9)) (pv 2))))) (cj (aR (bJ (pv 0) g.aW g.eW (iZ g) (hr.mono (by decide)) g.eO .nil pass0 (a8 (pv 4) a9))))))
   (aB (bH (aq (K:=K) rfl PySem.F.plainAttrs_list PySem.F.slot_list_append PySem.F.type_list_append bU (pv 3) (a8 (b8 (aR (bJ (pv 0) g.aW g.bc (bq g) (hr.mono (by decide)) g.bb .nil pass0 (a8 aH a9))) (aF g.kL (EZ g) hr rfl (a8 (pv 0) a9)) (cV (pv 0) g.aW g.dO (fX g) (hr.mono (by decide)) g.dM .nil pass0)) a9)))))
   (aB (aE (aq (K:=K) rfl PySem.F.plainAttrs_str PySem.F.slot_str_join PySem.F.type_str_join (di (K:=K) rfl) aH (a8 (pv 3) a9))))))),?_⟩
  have eP:gc=.str ⟨plS.toArray⟩:=by show V.str (Str.ofString _)=_;unfold plS;simp
  rw[eP];walk_at "rd";refine⟨by decide,fun q hq=>⟨aI (by rw[o5];lia),aI (by rw[length_append,o5];lia),?_⟩⟩;have mt:q≠p:=by obtain⟨dx,hp⟩:=Fn;exact (aY hp hq).symm
  refine dj (fun m σ H'=>∃(dn s' u w2:List Nat),m=s'.length∧σ=[some (.ref p),some (.str ⟨fr.toArray⟩),some (moV mo),some (.ref q),some (.str ⟨(plS++fr++[126]).toArray⟩)]∧s=dn++s'∧w'=u++w2∧WrT fr s' w2∧H' q=some (.lst (dn.map one))∧SameBut p H H'∧Cur H' g.aV p t (i+u.length)) s.length ⟨[],s,[],w',rfl,rfl,rfl,rfl,hw,aL,(av hq).but,?_⟩ ?_
  ·obtain⟨dx,hp⟩:=Fn;exact⟨dx,by rw[aN mt.symm];exact hp⟩
  rintro m σ H' ⟨dn,s',u,w2,rfl,rfl,es,ew,FB,dl,sb,ad⟩;have ld:t.drop (i+u.length)=w2++r:=by rw[<- drop_drop,hd,ew,append_assoc,drop_left]
  have FE:dn.length+s'.length=s.length:=by rw[es,length_append]
  have FG:i+w'.length≤t.length:=by have:=congrArg List.length hd;rw[length_drop,length_append] at this;lia
  have hk:i+u.length≤t.length:=by rw[ew,length_append] at FG;lia
  have hsl:=gL hw;have Cl:(dn.map one).length < sizeLine:=by rw[length_map];exact Nat.lt_of_le_of_lt (show dn.length≤100000 by lia) (by decide)
  have FF:s'=[]->∃ys:List Str,SqL K H' q (ys.map V.str)∧(ys.map fun x=>x.length).sum+ys.length * 0≤16777216∧Q (V.str (Txt.join ⟨#[]⟩ ys)) H':=fun e=>by
   subst e;cases FB;rw[append_nil] at es ew;refine⟨dn.map fun c=>⟨[c].toArray⟩,SqL.of (by rw[dl,map_map];rfl),?_,?_⟩
   ·rw[mv];simp only[length_map,Nat.mul_zero,Nat.add_zero];lia
   ·rw[show (⟨#[]⟩:Str)=⟨([]:List Nat).toArray⟩ from rfl,j4,mr];rw[es,ew] at k;exact k H' sb ad
  walk_at "rd";refine D5 (A:=s'=[]->Stops fr r) (fun FH=>?_) (fun z _=>FC.resolve_right fun y=>by rw[y] at z;cases z) (fun z Fx=>?_)
  ·cases FB with
   |nil=>
    have hn:∀c,t[i+u.length]?=some c->c∉plS++fr++[126]:=fun c hc hin=>by
     have hr:r.head?=some c:=by rw[<- hc,<- List.head?_drop,ld];rfl
     obtain⟨z1,z2,z3⟩:=FH rfl c hr;have FD:=Fr c (mem_of_getElem? hc);rcases mem_append.mp hin with hin|hin
     ·rcases mem_append.mp hin with hin|hin
      ·rw[(gJ FD).mp hin] at z1;cases z1
      ·exact z2 hin
     ·exact z3 (mem_singleton.mp hin)
    have hb:seesB t (plS++fr++[126]) (i+u.length)=false:=by
     cases hc:t[i+u.length]? with
     |none=>exact jJ hc
     |some c=>rw[cJ hc];exact decide_eq_false (hn c hc)
    refine af ad ⟨p,t,_,i+u.length,rfl,ad,hk,hl,_,rfl,?_⟩;rw[hb,if_neg (by decide)];exact FF rfl
   |self hpl hne hw3=>
    rename_i c s3 w3;obtain⟨hx,FD⟩:=gK (show t.drop (i+u.length)=c::(w3++r) from ld);have hc:=Fr c (mem_of_getElem? hx);have hin:c∈plS++fr++[126]:=mem_append.mpr (.inl (mem_append.mpr (hpl.imp (gJ hc).mpr id)));refine af ad ⟨p,t,_,i+u.length,rfl,ad,hk,hl,_,rfl,?_⟩;rw[cJ hx,decide_eq_true hin,if_pos rfl];refine⟨_,fun _ _ h=>h,⟨_,.of dl⟩,af ad ⟨p,t,[126],i+u.length,rfl,ad,hk,hl,fun BT=>?_,fun _=>⟨_,rfl,?_⟩⟩⟩
    ·rw[ld] at BT;exact absurd (List.cons.inj BT).1 hne
    rw[if_neg (by decide)];refine af ad ⟨p,t,i+u.length,c,rfl,ad,hx,hl,fun H1 s1 c1=>⟨_,s1 _ _ mt dl,Cl,s3.length,Nat.lt_succ_self _,dn++[c],s3,u++[c],w3,rfl,rfl,by rw[es,append_assoc];rfl,by rw[ew,append_assoc];rfl,hw3,?_,?_,?_⟩⟩
    ·rw[aL,map_append];rfl
    ·exact (sb.trans s1).upd hq
    ·obtain⟨dx,Fy⟩:=c1;rw[length_append,length_singleton,<- Nat.add_assoc];exact⟨dx,by rw[aN mt.symm];exact Fy⟩
   |pair hsg hw3=>
    rename_i c a b s3 w3;obtain⟨hx,FD⟩:=gK (show t.drop (i+u.length)=126::(a::b::(w3++r)) from ld);have hin:126∈plS++fr++[126]:=mem_append.mpr (.inr (mem_singleton.mpr rfl));refine af ad ⟨p,t,_,i+u.length,rfl,ad,hk,hl,_,rfl,?_⟩;rw[cJ hx,decide_eq_true hin,if_pos rfl];refine⟨_,fun _ _ h=>h,⟨_,.of dl⟩,af ad ⟨p,t,[126],i+u.length,rfl,ad,hk,hl,fun _ H1 s1 c1=>⟨_,rfl,?_⟩,fun BT=>?_⟩⟩
    ·rw[if_pos rfl];have FK:t.drop (i+u.length+1)=a::b::(w3++r):=by rw[<- drop_drop,ld];rfl
     refine⟨p,t,w3++r,i+u.length+1,a,b,c,rfl,c1,FK,hsg,hl,fun H2 s2 c2=>⟨_,(s1.trans s2) _ _ mt dl,Cl,s3.length,Nat.lt_succ_self _,dn++[c],s3,u++[126,a,b],w3,rfl,rfl,by rw[es,append_assoc];rfl,by rw[ew,append_assoc];rfl,hw3,?_,?_,?_⟩⟩
     ·rw[aL,map_append];rfl
     ·exact ((sb.trans s1).trans s2).upd hq
     ·obtain⟨dx,Fy⟩:=c2;rw[length_append,show [126,a,b].length=3 from rfl,show i+(u.length+3)=i+u.length+1+2 by lia];exact⟨dx,by rw[aN mt.symm];exact Fy⟩
    ·rw[ld] at BT;exact absurd rfl BT
  ·cases mo with
   |none=>exact absurd rfl z
   |some m=>have hm:=FI m rfl;refine⟨_,.inl (.of dl),?_⟩;show rI0 (fun i j=>V.bl (decide (i < j))) (V.int _) (V.int (m:Int)) H' _;walk_at "rd";refine ite2 (fun Fz=>Fx fun e=>FC.resolve_right fun z=>by have:=Option.some.inj z;rw[length_map] at Fz;rw[e] at FE;simp at FE;lia) (fun FJ=>FF ?_);rw[length_map] at FJ;exact length_eq_zero_iff.mp (by lia)
theorem F7 {nm:List (List Nat)}{cs:List Pc}{n4:List Nat}(hnm:∀n∈nm,NmOk n)(hnd:nm.Nodup)(h4:nm[4]?=some n4)(hl:0 < cs.length∧cs.length≤4)(h:∀(j:Nat) (c:Pc),cs[j]?=some c->∃z n,nm[j]?=some n∧PcOf z n c):PtOf nm cs∧PtOf nm (cs++[.rest n4]):=by
 have ok:∀c∈cs,PcOk c∧c.isRest=false∧(c.isStep=false->NmOk c.name∧c.name∈nm.take 5∧(c.isRest=true↔nm[4]?=some c.name)∧(c.isRest=false->(∃h t,c=.part h c.name t)∨c=.gap c.name)):=fun c hc=>by
  obtain⟨j,hj,ej⟩:=getElem_of_mem hc;obtain⟨z,n,hn,hp⟩:=h j c (List.getElem?_eq_some_iff.mpr ⟨hj,ej⟩);rcases hp with⟨_,l,rfl,v1,v2,v3,v4⟩|⟨_,p1,p2,rfl,p4,p5⟩
  ·exact⟨⟨length_pos_iff.mpr v1,by lia,v3,v4⟩,rfl,fun z=>by cases z⟩
  ·refine⟨p4,p2,fun _=>⟨hnm _ (mem_of_getElem? hn),?_,⟨fun z=>(by rw[p2] at z;cases z),fun z=>?_⟩,fun _=>?_⟩⟩
   ·exact mem_of_getElem? (i:=j) (by rw[List.getElem?_take,if_pos (by lia)];exact hn)
   ·have:=(List.getElem?_inj (List.getElem?_eq_some_iff.mp hn).1 hnd).mp (hn.trans z.symm);lia
   ·rcases p5 with⟨a,b,e,_⟩|e
    ·exact .inl ⟨a,b,e⟩
    ·exact .inr e
 have n5:∀(j:Nat) (c:Pc),cs[j]?=some c->c.isStep=false->nm[j]?=some c.name:=fun j c hc hs=>by
  obtain⟨z,n,hn,hp⟩:=h j c hc;rcases hp with⟨_,l,rfl,_⟩|⟨_,_,_,rfl,_⟩
  ·cases hs
  ·exact hn
 obtain⟨g1,g2⟩:=pB hnd (cs:=cs) 0 (fun i c hc hs=>by rw[Nat.zero_add];exact n5 i c hc hs);have ld:=hnm n4 (mem_of_getElem? h4);refine⟨⟨⟨fun c hc=>(ok c hc).1,fun i c hi hr=>by rw[(ok c (mem_of_getElem? hi)).2.1] at hr;cases hr⟩,⟨hl.1,by lia⟩,g1,fun c hc=>(ok c hc).2.2⟩,?_⟩;have eg:gapsM (cs++[.rest n4])=gapsM cs++[n4]:=by unfold gapsM;rw[filter_append,map_append];rfl
 refine⟨⟨fun c hc=>?_,fun i c hi hr=>?_⟩,⟨by rw[length_append,length_singleton];lia,by rw[length_append,length_singleton];lia⟩,?_,fun c hc hs=>?_⟩
 ·rcases mem_append.mp hc with z|z
  ·exact (ok c z).1
  ·rw[mem_singleton.mp z];exact True.intro
 ·by_cases ad:i < cs.length
  ·rw[List.getElem?_append_left ad] at hi;rw[(ok c (mem_of_getElem? hi)).2.1] at hr;cases hr
  ·have:=(List.getElem?_eq_some_iff.mp hi).1;rw[length_append,length_singleton] at this ⊢;lia
 ·rw[eg];refine ((List.perm_append_singleton n4 (gapsM cs)).nodup_iff).mpr (nodup_cons.mpr ⟨fun z=>?_,g1⟩);obtain⟨c,hc,e⟩:=mem_map.mp z;obtain⟨hc,dl⟩:=mem_filter.mp hc;obtain⟨j,hj,ej⟩:=getElem_of_mem hc;have h5:=n5 j c (List.getElem?_eq_some_iff.mpr ⟨hj,ej⟩) (by simpa using dl);have:=(List.getElem?_inj (List.getElem?_eq_some_iff.mp h5).1 hnd).mp (h5.trans (by rw[e];exact h4.symm));lia
 ·rcases mem_append.mp hc with z|z
  ·exact (ok c z).2.2 hs
  ·rw[mem_singleton.mp z];exact⟨ld,mem_of_getElem? (i:=4) (by rw[List.getElem?_take,if_pos (by decide)];exact h4),⟨fun _=>h4,fun _=>rfl⟩,fun y=>by cases y⟩
theorem F8 (g:G K mg):g.kT.Ok P w base 4 (sp__law_pattern_text K):=by
 refine g.kT.F.ok cD (fun vs H Q E h=>?_) (fun FR A FF s H vs Q E hr h=>?_)
 ·obtain⟨a,pn,ns,s,nm,rfl,_⟩:=h;rfl
 ·obtain⟨a,pn,ns,ad,nm,rfl,hS,Fz,FQ,FA,FO,k⟩:=h;refine⟨_,(aC (sx 3 cD.nd (aF g.bQ (be g) hr rfl (a8 (pv 0) (a8 (pv 1) a9))))
   (aC (sx 4 cD.nd (aw a9))
   (aC (sx 5 cD.nd aH)
   (ae (bO PassesOwn.never rfl (bu rfl g.bo (a8 (aD (aQ (K:=K)) aA (aD aT (pv 3) aA)) a9)) (pgn 6 cD.nd)
   (aC (sx 7 cD.nd (aF g.bQ (be g) hr rfl (a8 (pv 0) (a8 (aD (aQ (K:=K)) (aD (aQ (K:=K)) (pv 1) aA) (pv 6)) a9))))
   (aC (sx 5 cD.nd (aD (aQ (K:=K)) (aD (aQ (K:=K)) (pv 5) aH) (aF g.kN (F1 g) hr rfl (a8 (pv 7) (a8 (px K (pv 2) (pv 6)) a9)))))
   (aB (aJ (ptm bT (aD aT (pv 7) aA) aA)
    (aB (bH (aq (K:=K) rfl PySem.F.plainAttrs_list PySem.F.slot_list_append PySem.F.type_list_append bU (pv 4) (a8 (px K (pv 2) (pv 6)) a9)))) aK)))))
   (ae (aJ (ptm aO (aD aT (aD ai (pv 3) aA) aA) aA)
    (aC (sx 5 cD.nd (aD (aQ (K:=K)) (aD (aQ (K:=K)) (aD (aQ (K:=K)) (pv 5) aH) (px K (pv 2) aA)) aH))
   (aB (bH (aq (K:=K) rfl PySem.F.plainAttrs_list PySem.F.slot_list_append PySem.F.type_list_append bU (pv 4) (a8 (px K (pv 2) aA) a9))))) aK)
   (aC (aJ (ptm aO (aD aT (aD ai (pv 3) aA) aA) aA)
    (aB (sx 5 cD.nd (aD (aQ (K:=K)) (pv 5) aH))) aK)
   (aB (aE (al (a8 (pv 5) (a8 (pv 4) a9))))))))))),?_⟩
  have d3:Str.ofString "/"=⟨[47].toArray⟩:=by decide +kernel
  have d4:Str.ofString "/{"=⟨[47,123].toArray⟩:=by decide +kernel
  have d5:Str.ofString ":rest}"=⟨[58,114,101,115,116,125].toArray⟩:=by decide +kernel
  rw[d3,d4,d5];walk_at "rd";have md:∀(z b:Int),0 < b->∃m:Nat,(m:Int) < b∧z % b=(m:Int):=fun z b hb=>by have h1:=Int.emod_nonneg z (show b≠0 by lia);have h2:=Int.emod_lt_of_pos z hb;exact⟨(z % b).toNat,by lia,by lia⟩
  refine⟨a,ns,ad,rfl,hS,?_⟩;obtain⟨z,hz⟩:∃z,z=ns.getD ad 0:=⟨_,rfl⟩;rw[<- hz];walk_at "rd";obtain⟨m,hm,em⟩:=md z 4 (by decide);have h4:nm[4]?=some nm[4]:=List.getElem?_eq_getElem (by lia);have FD:∀{cs:List Pc}{ws:List (List Nat)},PcWs cs ws->(∀w∈ws,w.length≤100)->cs.length≤5->(ws.flatMap (47::·)).length≤1000:=fun {cs ws} h1 h2 h3=>by
   have h4:=h1.length;have:∀{l:List (List Nat)},(∀w∈l,w.length≤100)->(l.flatMap (47::·)).length≤101 * l.length:=fun {l} hl=>by
    induction l with
    |nil=>simp
    |cons w l ih=>have:=ih fun x hx=>hl x (mem_cons_of_mem _ hx);have:=hl w mem_cons_self;rw[flatMap_cons,length_append,length_cons,length_cons];lia
   have:=this h2;lia
  refine⟨by decide,fun p1 H1 n1 s1 e1=>?_⟩;refine⟨fun σ H2=>SameBut p1 H H2∧∃(cs:List Pc) (ws:List (List Nat)) (v6 v7:Option V),σ=[some (.ref a),some (.int (ad:Int)),some (.ref pn),some (.int z),some (.ref p1),some (tV (ws.flatMap (47::·))),v6,v7]∧(0 < cs.length∧cs.length≤4)∧PcWs cs ws∧(∀w∈ws,w.length≤100)∧H2 p1=some (.lst ((gapsM cs).map tV))∧∀(j:Nat) (c:Pc),cs[j]?=some c->∃z n,nm[j]?=some n∧PcOf z n c,?_,?_⟩
  ·rw[em,show (1:Int)+(m:Int)=((1+m:Nat):Int) by lia];refine⟨by decide,by lia,by lia,?_⟩;rw[Int.toNat_natCast];refine cq (fun i σ H'=>SameBut p1 H H'∧∃(cs:List Pc) (ws:List (List Nat)) (v6 v7:Option V),σ=[some (.ref a),some (.int (ad:Int)),some (.ref pn),some (.int z),some (.ref p1),some (tV (ws.flatMap (47::·))),v6,v7]∧cs.length=i∧PcWs cs ws∧(∀w∈ws,w.length≤100)∧H' p1=some (.lst ((gapsM cs).map tV))∧∀(j:Nat) (c:Pc),cs[j]?=some c->∃z n,nm[j]?=some n∧PcOf z n c) ⟨Same.but s1,[],[],none,none,rfl,rfl,.nil,(fun w hw=>by cases hw),e1,fun j c hc=>by cases hc⟩ ?_ ?_
   ·rintro i σ H2 hi ⟨sb,cs,ws,v6,v7,rfl,Fr,ld,mt,h2,Cl⟩;have s2:=sb.same n1;walk_at "rd";refine⟨a,ns,ad+1+i,by rw[show (ad:Int)+1+(0+(i:Int))=((ad+1+i:Nat):Int) by lia],s2.seq hS,?_⟩;obtain⟨y,hy⟩:∃y,y=ns.getD (ad+1+i) 0:=⟨_,rfl⟩;rw[<- hy];have hfl2:=FD ld mt (by lia);have FH:nm[i]?=some nm[i]:=List.getElem?_eq_getElem (by lia);walk_at "rd";have Fx:(nm.map tV)[i]?=some (tV nm[i]):=by rw[List.getElem?_map,FH];rfl
    refine⟨aI (by lia),_,_,.inl (.of (s2 _ _ Fz)),by rw[Int.zero_add];exact aG Fx,y,nm[i],rfl,FA _ (getElem_mem _),fun c w hp hw FC=>bP.mpr ⟨aI (by rw[aU,aU,length_append,length_singleton];lia),?_⟩⟩;rw[b7,show ws.flatMap (47::·)++[47]++w=(ws++[w]).flatMap (47::·) by rw[List.flatMap_append];simp];have FG:∀x∈ws++[w],x.length≤100:=fun x hx=>by
     rcases mem_append.mp hx with z|z
     ·exact mt x z
     ·rw[mem_singleton.mp z];exact FC
    have FJ:∀(j:Nat) (d:Pc),(cs++[c])[j]?=some d->∃z n,nm[j]?=some n∧PcOf z n d:=fun j d hd=>by
     by_cases FP:j < cs.length
     ·rw[List.getElem?_append_left FP] at hd;exact Cl j d hd
     ·have hj:=(List.getElem?_eq_some_iff.mp hd).1;rw[length_append,length_singleton] at hj;have ej:j=i:=by lia
      subst ej;rw[List.getElem?_append_right (by lia),Fr,Nat.sub_self] at hd;cases hd;exact⟨y,_,FH,hp⟩
    have Fn:(cs++[c]).length=i+1:=by rw[length_append,length_singleton,Fr]
    have eg:∀d:Pc,gapsM (cs++[d])=gapsM cs++if d.isStep then [] else [d.name]:=fun d=>by unfold gapsM;rw[filter_append,map_append];cases hd:d.isStep <;> simp[hd]
    have hg5:=d7 cs;refine⟨by decide,ite2 (fun FN=>?_) (fun FN=>?_)⟩
    ·rcases hp with⟨h0,_⟩|⟨_,g1,_,g3,_⟩
     ·lia
     refine⟨⟨_,.of h2⟩,_,_,.inl (.of (s2 _ _ Fz)),by rw[Int.zero_add];exact aG Fx,_,h2,Nat.lt_of_le_of_lt (show ((gapsM cs).map tV).length≤100 by rw[length_map];lia) (by decide),sb.trans bg,cs++[c],ws++[w],_,_,⟨rfl,rfl,rfl⟩,Fn,PcWs.snoc hw ld,FG,?_,FJ⟩;rw[aL,eg,g1,g3,map_append];rfl
    ·rcases hp with⟨_,l,rfl,_⟩|⟨h0,_⟩
     ·exact⟨sb,cs++[.step l],ws++[w],_,_,⟨rfl,rfl,rfl⟩,Fn,PcWs.snoc hw ld,FG,by rw[h2,eg];simp[Pc.isStep],FJ⟩
     ·have:=Int.emod_nonneg y (show (3:Int)≠0 by decide);lia
   ·rintro σ H2 ⟨sb,cs,ws,v6,v7,rfl,Fr,ld,mt,h2,Cl⟩;exact⟨sb,cs,ws,v6,v7,rfl,⟨by lia,by lia⟩,ld,mt,h2,Cl⟩
  rintro σ H2 ⟨sb,cs,ws,v6,v7,rfl,Fr,ld,mt,h2,Cl⟩;obtain⟨FM,FL⟩:=F7 FA FO h4 Fr Cl;walk_at "rd";have s2:=sb.same n1;have hfl2:=FD ld mt (by lia);have Fx:(nm.map tV)[4]?=some (tV nm[4]):=by rw[List.getElem?_map,h4];rfl
  refine⟨fun σ H3=>SameBut p1 H H3∧∃(cs:List Pc) (ws:List (List Nat)),σ=[some (.ref a),some (.int (ad:Int)),some (.ref pn),some (.int z),some (.ref p1),some (tV (ws.flatMap (47::·))),v6,v7]∧PtOf nm cs∧PcWs cs ws∧(∀w∈ws,w.length≤100)∧H3 p1=some (.lst ((gapsM cs).map tV)),⟨⟨by decide,by decide⟩,by decide,ite2 (fun _=>?_) (fun _=>⟨sb,cs,ws,rfl,FM,ld,mt,h2⟩)⟩,?_⟩
  ·have n8:=(FA _ (mem_of_getElem? h4)).1.2;refine⟨aI (by lia),_,_,.inl (.of (s2 _ _ Fz)),aG (j:=4) Fx,bP.mpr ⟨aI (by rw[aU,aU,length_append];simp only[length_cons,length_nil];lia),?_⟩⟩;rw[b7];refine bP.mpr ⟨aI (by rw[aU,length_append,length_append];simp only[length_cons,length_nil];show _+6≤_;lia),⟨_,.of h2⟩,_,_,.inl (.of (s2 _ _ Fz)),aG (j:=4) Fx,_,h2,Nat.lt_of_le_of_lt (show ((gapsM cs).map tV).length≤100 by rw[length_map];have:=d7 cs;lia) (by decide),sb.trans bg,cs++[.rest nm[4]],ws++[123::(nm[4]++58::([114,101,115,116]++[125]))],?_,FL,PcWs.snoc (.rest (FA _ (mem_of_getElem? h4))) ld,fun x hx=>?_,?_⟩
   ·have e:(⟨(ws.flatMap (47::·)++[47,123]++nm[4]).toArray⟩:Str)++⟨[58,114,101,115,116,125].toArray⟩=⟨((ws++[123::(nm[4]++58::([114,101,115,116]++[125]))]).flatMap (47::·)).toArray⟩:=by
     rw[b7,List.flatMap_append];simp
    exact congrArg (fun t:Str=>[some (V.ref a),some (V.int (ad:Int)),some (V.ref pn),some (V.int z),some (V.ref p1),some (V.str t),v6,v7]) e
   ·rcases mem_append.mp hx with y|y
    ·exact mt x y
    ·rw[mem_singleton.mp y];simp only[length_cons,length_append,length_nil];lia
   ·rw[aL];unfold gapsM;rw[filter_append,map_append,map_append];rfl
  rintro σ H3 ⟨FE,FK,FB,rfl,Fy,dl,BT,h3⟩;walk_at "rd";have FI:FB≠[]:=fun y=>by have h5:=dl.length;have h6:=Fy.2.1.1;rw[y] at h5;simp at h5;lia
  have hfl3:=FD dl BT Fy.2.1.2;refine⟨⟨by decide,by decide⟩,by decide,ite2 (fun _=>⟨aI (by lia),by decide,fun p4 H4 n4 s4 e4=>k FK true FB p4 p1 H4 Fy dl BT ((FE.same n1).trans s4) (s4 _ _ h3) (by rw[e4,pf FI true];rfl)⟩) (fun _=>⟨by decide,fun p4 H4 n4 s4 e4=>k FK false FB p4 p1 H4 Fy dl BT ((FE.same n1).trans s4) (s4 _ _ h3) (by rw[e4,pf FI false];simp)⟩)⟩
theorem F9 (g:G K mg):g.kU.Ok P w base 5 (sp_show K):=by
 refine g.kU.F.ok tW (fun vs H Q E h=>?_) (fun mt A dl s H vs Q E hr h=>?_)
 ·obtain⟨x,v,rfl,_⟩:=h;rfl
 ·obtain⟨x,v,rfl,hI,wf,sz,k⟩:=h;refine⟨_,(ae (sx 1 tW.nd (b8 (aR (aF g.gh (tm g) hr rfl (a8 (pv 0) a9))) (aD (ah (K:=K) rfl) (px K (pv 0) (aM (v:=rz) rfl g.l7 ⟨_,rfl⟩)) aH) aH))
   (aB (aE (aD (ah (K:=K) rfl) (aD (ah (K:=K) rfl) (aD (ah (K:=K) rfl) (aD (ah (K:=K) rfl) (pv 1) (aF g.kC (EQ g) hr rfl (a8 (px K (pv 0) (aM (v:=Dk) rfl g.sj ⟨_,rfl⟩)) (a8 (px K (pv 0) (aM (v:=Dl) rfl g.sk ⟨_,rfl⟩)) a9)))) (aF g.kD (ER g) hr rfl (a8 (px K (pv 0) (aM (v:=sA) rfl g.l8 ⟨_,rfl⟩)) a9))) (aF g.kP (F3 g) hr rfl (a8 (px K (pv 0) (aM (v:=Dm) rfl g.so ⟨_,rfl⟩)) a9))) (aF g.kF (ET g) hr rfl (a8 (px K (pv 0) (aM (v:=Dn) rfl g.sq ⟨_,rfl⟩)) a9)))))),?_⟩
  obtain⟨p,w,q,rfl,hp,ld,i4⟩:=A3 hI;obtain⟨pw,ps,rfl,hw,hs⟩:=A2 ld;have ad:=sz.all;rw[Ad.shw] at ad;simp only[length_append] at ad;have c1:Str.ofString ":"=⟨[58].toArray⟩:=by decide +kernel
  rw[c1];walk_at "rd";refine⟨fun σ H'=>H'=H∧σ=[some (.ref p),some (.str ⟨(schT x.scheme).toArray⟩)],?_,?_⟩
  ·refine⟨p,x.scheme,_,rfl,hp,_,rfl,?_⟩;by_cases hh:x.scheme=[]
   ·refine ite2 (fun z=>absurd hh (by simpa using z)) (fun _=>⟨rfl,?_⟩);rw[hh];rfl
   ·refine ite2 (fun _=>?_) (fun z=>absurd hh (by simpa using z));have e:schT x.scheme=x.scheme++[58]:=by simp[schT,hh]
    refine⟨_,_,.inr hp,rfl,?_⟩;rw[show (⟨#[58]⟩:Str)=⟨[58].toArray⟩ from rfl];walk_at "rd";rw[e,length_append] at ad;refine⟨aI (by simp at ad ⊢;lia),?_⟩;rw[e]
  rintro σ H' ⟨rfl,rfl⟩;walk_at "rd";refine⟨_,_,.inr hp,rfl,_,_,.inr hp,rfl,x.house,x.door,rfl,fun l e=>⟨(wf.hou l e).1.2,(wf.hou l e).2⟩,wf.doo,fun H1 s1=>?_⟩;walk_at "rd";refine⟨aI (by simp;lia),_,_,.inr (s1.tup hp),rfl,x.rooted,x.ends,x.steps,pw,ps,rfl,s1.tup hw,s1.tup hs,fun s h=>⟨sz.stp s h,(wf.stp s h).2⟩,sz.num,by show x.wayT.length≤90000;lia,fun H2 s2=>?_⟩;walk_at "rd";refine⟨aI (by show _+x.wayT.length≤_;simp;lia),_,_,.inr ((s1.trans s2).tup hp),rfl,x.quest,q,rfl,i4.mono (s1.trans s2),fun ps e=>⟨(sz.que ps e).1,fun q hq=>⟨wf.que ps e q hq,(sz.que ps e).2 q hq⟩⟩,by lia,fun H3 s3=>?_⟩;walk_at "rd";refine⟨aI (by show _+(queT x.quest).length≤_;simp[Ad.wayT] at ad ⊢;lia),_,_,.inr (((s1.trans s2).trans s3).tup hp),rfl,x.mark,rfl,fun l e=>⟨sz.mar l e,wf.mar l e⟩,fun H4 s4=>?_⟩;walk_at "rd";refine⟨aI (by simp[Ad.wayT] at ad ⊢;lia),?_⟩;have:=k H4 (((s1.trans s2).trans s3).trans s4);rw[Ad.shw] at this;simpa [Ad.wayT] using this
theorem Fa (g:G K mg):g.kW.Ok P w base 5 (sp_are_pieces K):=by
 refine g.kW.F.ok El (fun vs H Q E h=>?_) (fun Cl A ad s H vs Q E hr h=>?_)
 ·obtain⟨cs,e,xs,q,rfl,_⟩:=h;rfl
 ·obtain⟨cs,e,xs,q,rfl,hq,hx,⟨ok,hn,nd,hl,_⟩,k⟩:=h;refine⟨_,(aC (aJ (PW.pt (am (ptm bT (aP (ac (K:=K) rfl) rfl g.aZ PySem.boot_len (a8 (pv 0) a9)) (aM (v:=Ds) rfl g.t5 ⟨_,rfl⟩)) (ax (ak (aR (aP (dk (K:=K) rfl rfl) rfl g.dQ PyProof.Rows.boot_all (a8 (cmp1 [] [] (cu (K:=K) rfl (pv 0)) bX (aF g.kQ (F4 g) hr rfl (a8 (pv 0) a9))) a9)))))))
    (aB (aE bA)) aK)
   (aB (aE (aj (aF g.jq (Ey g) hr rfl (a8 (pv 0) a9)) (ao (aF g.kH (EV g) hr rfl (a8 (pv 0) a9))))))),?_⟩
  walk_at "rd";obtain⟨dl,mt⟩:=jj hx;rw[length_map] at dl;refine⟨_,.inr (.of hq),ite2 (fun h=>absurd h (by lia)) (fun h=>⟨⟨_,.of hq⟩,fun p1 n1=>?_⟩)⟩;refine oO (xs:=xs) (fun i ys H'=>Same H H'∧ys=(List.replicate i true).map V.bl) (aI (by lia)) ⟨av n1,rfl⟩ (fun i ys H2 hJ=>.of (hJ.1 _ _ hq)) (fun i x ys H2 T ld hJ h2 hT=>?_) (fun ys H2 hJ h2=>?_)
  ·obtain⟨s2,rfl⟩:=hJ;obtain⟨d,hd,BT⟩:=mt i x ld;rw[List.getElem?_map] at hd;obtain⟨c,hc,rfl⟩:=Option.map_eq_some_iff.mp hd;have hc:=mem_of_getElem? hc;walk_at "rd";refine⟨c,x,rfl,BT.mono s2.toT,ok.1 c hc,hn c hc,fun H3 s3=>hT _ H3 (s3 _ _ h2) ⟨cx n1 (s2.trans s3),?_⟩⟩;rw[List.replicate_succ',map_append];rfl
  ·obtain⟨s2,rfl⟩:=hJ;walk_at "rd";refine⟨_,.of h2,?_⟩;rw[show (List.replicate xs.length true).all id=true by simp];refine ite2 (fun z=>by cases z) (fun _=>⟨cs,xs,q,rfl,s2 _ _ hq,jk (hx.mono s2.toT),by lia,fun H3 s3=>⟨_,rfl,?_⟩⟩);rw[D1 ok];refine ite2 (fun _=>⟨cs,xs,q,rfl,(s2.trans s3) _ _ hq,jk (hx.mono (s2.trans s3).toT),by lia,fun H4 s4=>?_⟩) (fun z=>absurd rfl z);rw[decide_eq_true nd];exact k H4 ((s2.trans s3).trans s4)
theorem Fb (g:G K mg):g.kX.Ok P w base 5 (sp_read_gap K):=by
 refine g.kX.F.ok tX (fun vs H Q E h=>?_) (fun ld A dl s H vs Q E hr h=>?_)
 ·obtain⟨c,a,i,b,rfl,_⟩:=h;rfl
 ·obtain⟨c,a,i,b,rfl,hg,l1,l2,l3,k⟩:=h;refine⟨_,(aC (aJ (PW.pt (am (ptm bB (pv 0) aH) (ax (ptm bB (pv 2) aH))))
    (aB (aE (al (a8 aH (a8 (bI (lY g) (hr.mono (by decide)) rfl g.i8 g.eR.kp g.i9 .nil pass0 (a8 (pv 0) (a8 (aM (v:=cM) rfl g.dP ⟨_,rfl⟩) a9))) (a8 (pv 1) (a8 (bI (lY g) (hr.mono (by decide)) rfl g.i8 g.eR.kp g.i9 .nil pass0 (a8 (pv 2) (a8 (aM (v:=cM) rfl g.dP ⟨_,rfl⟩) a9))) a9))))))) aK)
   (aC (sx 3 tX.nd (aq (K:=K) rfl PySem.F.plainAttrs_str PySem.F.slot_str_partition PySem.F.type_str_partition gI (pv 1) (a8 aH a9)))
   (aC (aJ (ptm aO (px K (pv 3) aA) aH)
    (aB (aE (al (a8 aH (a8 (pv 1) a9))))) aK)
   (aB (aE (b8 (bv (nY (K:=K) rfl) (px K (pv 3) aA) (aM (v:=.ref g.iL) rfl g.t9 rfl) (by with_unfolding_all rfl)) (al (a8 (px K (pv 3) aA) (a8 (px K (pv 3) aA) a9))) aS)))))),?_⟩
  have b3:Str.ofString ":"=⟨[58].toArray⟩:=by decide +kernel
  have eF:cM=.str ⟨frS.toArray⟩:=congrArg V.str (gT _).symm;rw[b3,eF];walk_at "rd";cases hg with
  |@part h n t a b w1 w2 w3=>
   have P:a.length≤2000∧(∀(c:Nat),c∈a->c < 128)∧∀H',Same H H'->b.length≤2000∧(∀(c:Nat),c∈b->c < 128)∧∀H2,Same H' H2->4≤sizeLine∧∀p H',H2 p=none->Same H2 H'->H' p=some (.tup [V.str (Str.ofString "part"),undV (und frS a),tV i,undV (und frS b)])->Q (V.ref p) H':=
    ⟨l1,jh w1,fun H1 s1=>⟨l3,jh w2,fun H2 s2=>⟨by decide,fun p H3 n s3 e3=>k _ _ (s1.trans (s2.trans s3)) (by rw[jg w1,jg w2] at e3;exact .tup e3 (.cons (.str _) (.cons (.str _) (.cons (.str _) (.cons (.str _) .nil)))))⟩⟩⟩
   refine ite2 (fun _=>P) (fun h1=>ite2 (fun _=>P) (fun h2=>absurd ?_ w3));have e1:=gL w1;have e2:=gL w2;rw[bZ.mp (Decidable.not_not.mp h1),length_nil] at e1;rw[bZ.mp (Decidable.not_not.mp h2),length_nil] at e2;rw[length_eq_zero_iff.mp (show h.length=0 by lia),length_eq_zero_iff.mp (show t.length=0 by lia)];rfl
  |gap h1=>refine ite2 (fun z=>absurd rfl z) (fun _=>ite2 (fun z=>absurd rfl z) (fun _=>⟨by decide,aI (by lia),fun p hp=>?_⟩));rw[show Txt.partition ⟨i.toArray⟩ ⟨#[58]⟩=_ from pP h1];refine⟨_,_,.inr (.of aL),aG (j:=1) rfl,aX.mpr ⟨_,rfl,ite2 (fun _=>⟨by decide,fun p2 H2 n2 s2 e2=>k _ _ ((av hp).trans s2) (.tup e2 (.cons (.str _) (.cons (.str _) .nil)))⟩) (fun z=>absurd (decide_eq_true rfl) z)⟩⟩
  |@kw c n kk h1 h2 h3 h4=>refine ite2 (fun z=>absurd rfl z) (fun _=>ite2 (fun z=>absurd rfl z) (fun _=>⟨by decide,aI (by lia),fun p hp=>?_⟩));rw[show Txt.partition ⟨(n++58::kk).toArray⟩ ⟨#[58]⟩=_ from jc h1];refine⟨_,_,.inr (.of aL),aG (j:=1) rfl,aX.mpr ⟨_,rfl,ite2 (fun z=>absurd (of_decide_eq_true z) (show (⟨#[58]⟩:Str)≠⟨#[]⟩ by decide)) (fun _=>?_)⟩⟩;generalize hH:upd H p _=H1;have s1:Same H H1:=hH▸av hp;have ad:SqT K H1 p [.str (mkS n),.str (mkS [58]),.str (mkS kk)]:=hH▸.of aL;refine⟨_,_,.inr ad,aG (j:=2) rfl,_,kwW.map V.str,rfl,.inr (pR (ss:=kwW) (g.tD H1)),rfl,rfl,_,rfl,?_⟩;rw[if_neg (show ¬ false=true by decide),jd];refine ite2 (fun z=>⟨_,_,.inr ad,aG (j:=2) rfl,_,_,.inr ad,aG (j:=0) rfl,by decide,fun p2 H2 n2 s2 e2=>k _ _ (s1.trans s2) (by rw[h4,h2];exact .tup e2 (.cons (.str _) (.cons (.str _) .nil)))⟩) (fun z=>absurd (decide_eq_true (h2▸h3)) z)
theorem Fc (g:G K mg):g.kY.Ok P w base 5 (sp_bound K):=by
 refine g.kY.F.ok iR (fun vs H Q E h=>?_) (fun FD A ld s H vs Q E hr h=>?_)
 ·obtain⟨cs,xs,p,q,pw,ps,cl,r,e,ss,rfl,_⟩:=h;rfl
 ·obtain⟨cs,xs,p,q,pw,ps,cl,r,e,ss,rfl,hp,hq,hx,hn,hz,hw,Cl,Fz,mt,k0,k⟩:=h;refine⟨_,(aC (aJ (ak (aR (aF g.gp (uC g) hr rfl (a8 (pv 0) (a8 (pv 1) a9)))))
    (aB (aE aS)) aK)
   (aC (sx 2 iR.nd (aw a9))
   (aC (bO PassesOwn.never rfl (Bc (K:=K) rfl rfl g.lC (a8 (px K (pv 0) (aM (v:=cN) rfl g.cA ⟨_,rfl⟩)) a9)) (dq (n:=2) (K:=K) rfl rfl (bS (pgn 3 iR.nd) (bS (pgn 4 iR.nd) cm)))
   (aB (aJ (aR (aF g.eI (lT g) hr rfl (a8 (pv 4) a9)))
    (aB (bH (aq (K:=K) rfl PySem.F.plainAttrs_list PySem.F.slot_list_append PySem.F.type_list_append bU (pv 2) (a8 (al (a8 (aF g.eJ (lU g) hr rfl (a8 (pv 4) a9)) (a8 (aF g.k6 (EJ g) hr rfl (a8 (pv 4) (a8 (ay bi (px K (pv 1) (aM (v:=jl) rfl g.iJ ⟨_,rfl⟩)) (au (pv 3)) b9) a9))) a9))) a9)))) aK)))
   (aB (aE (pv 2)))))),?_⟩
  walk_at "rd";refine⟨cs,xs,p,q,pw,ps,cl,r,e,ss,rfl,hp,hq,hx,hn,hz,hw,.of Cl,Fz,mt,fun H1 s1=>⟨_,rfl,?_⟩⟩;cases hf:fitsP cs cl r ss e with
  |false=>exact ite2 (fun _=>k0 hf H1 s1) (fun z=>absurd rfl z)
  |true=>
   refine ite2 (fun z=>by cases z) (fun _=>⟨by decide,fun l H2 n2 s2 e2=>?_⟩);have dl:=s1.trans s2;have hl:=hx.length;refine⟨_,_,.inr (dl.tup hp),aG (j:=0) rfl,q,xs,rfl,.of (dl _ _ hq),?_⟩;have nl:H l=none:=by
    cases hh:H l with
    |none=>rfl
    |some o=>rw[s1 _ _ hh] at n2;cases n2
   refine Be (fun i σ H'=>∃(ys:List V) (v3 v4:Option V),σ=[some (.ref p),some (.ref pw),some (.ref l),v3,v4]∧H' l=some (.lst ys)∧BndV H' l (boundM (cs.take i) ss) ys∧Same H H'∧FrB H H' ys) ⟨[],none,none,rfl,e2,.nil,dl,fun v hv=>by cases hv⟩ (fun i σ H' _ h=>by obtain⟨_,_,_,_,_,_,hh,_⟩:=h;exact .of (hh _ _ hq)) ?_ ?_
   ·rintro i v σ H3 T hv ⟨ys,v3,v4,rfl,e3,hb,s3,hF⟩ hT;obtain⟨c,pc,hc,rfl,FA⟩:=hx.get hv;have st:Same H3 (upd H3 T (.tup [.int (i:Int),.ref pc])):=av hT;have ad:=(s3.trans st).tup FA;have et:=og cs ss i c hc;obtain⟨s,hs,FB⟩:=oi hf hc;walk_at "rd";refine⟨T,_,rfl,.of aL,rfl,_,_,rfl,_,_,rfl,rfl,?_⟩;walk_at "rd";refine⟨c,pc,rfl,ad,_,rfl,?_⟩;have hbl:=hb.length;have FC:=oa (cs.take i) ss;rw[length_take] at FC;cases hcs:c.isStep with
    |true=>refine ite2 (fun z=>by cases z) (fun _=>?_);rw[hcs,if_pos rfl,append_nil] at et;exact⟨ys,_,_,⟨rfl,rfl⟩,st _ _ e3,by rw[et];exact hb.mono st,s3.trans st,hF.mono st.toT⟩
    |false=>
     refine ite2 (fun _=>?_) (fun z=>absurd rfl z);rw[hcs,if_neg (by decide)] at et;have sT:=s3.trans st;have BT:ss.drop i=s::ss.drop (i+1):=by have hi:=(List.getElem?_eq_some_iff.mp hs);rw[List.drop_eq_getElem_cons hi.1,hi.2]
     obtain⟨z1,z2⟩:=hz c (mem_of_getElem? hc);refine⟨⟨_,.of (st _ _ e3)⟩,c,pc,rfl,ad,hcs,_,_,.inr (sT.tup hw),aG (j:=1) rfl,ps,_,rfl,sT _ _ Cl,fun p4 H4 s4 e4=>?_⟩;rw[eA,<- map_drop,BT] at e4;refine⟨c,s,ss.drop (i+1),pc,p4,rfl,s4.tup ad,e4,FB,mt s (mem_of_getElem? hs),z1,z2,by rw[length_drop];lia,fun v H5 s5 Fy Fn=>⟨by decide,fun p6 H6 n6 s6 e6=>?_⟩⟩;have Fr:=(st.trans (s4.trans (s5.trans s6))) _ _ e3;have Fx:∀q,v=.ref q->q≠l:=fun q z w=>by have:=Fn q z;rw[w,s4 _ _ (st _ _ e3)] at this;cases this
     refine⟨_,Fr,Nat.lt_of_le_of_lt (show ys.length≤100 by lia) (by decide),ys++[.ref p6],_,_,⟨rfl,rfl⟩,by rw[aL],?_,cx nl (sT.trans (s4.trans (s5.trans s6))),((hF.mono (st.trans (s4.trans (s5.trans s6))).toT).snoc e6 fun q z=>pG (sT.trans s4) (Fn q z)).mono (ft Fr)⟩;rw[et,BT];exact ((hb.mono (st.trans (s4.trans (s5.trans s6)))).snoc e6 (Fy.mono s6) Fx).upd Fr
   ·rintro σ H3 ⟨ys,v3,v4,rfl,e3,hb,s3,hF⟩;rw[hl,take_length] at hb;walk_at "rd";exact k hf l ys H3 nl hF s3 e3 hb
theorem Fe (g:G K mg):g.kZ.Ok P w base 5 (sp_is_value K):=by
 refine g.kZ.F.ok Em (fun vs H Q E h=>?_) (fun Fr A mt s H vs Q E hr h=>?_)
 ·obtain⟨c,p,d,v,rfl,_⟩:=h;rfl
 ·obtain⟨c,p,d,v,rfl,hp,hc,hh,ht,hv,hs,ad,k⟩:=h;refine⟨_,(aC (aJ (ptm aO (px K (pv 0) aA) aH)
    (aB (aE (aj (aP bM rfl g.bE bK (a8 (pv 1) (a8 (bG (v:=.ty "list") rfl g.iN ir rfl) a9))) (aj (pcm bT (aP (ac (K:=K) rfl) rfl g.aZ PySem.boot_len (a8 (pv 1) a9)) aA) (ao (aP (dk (K:=K) rfl rfl) rfl g.dQ PyProof.Rows.boot_all (a8 (cmp1 [] [] (cY (K:=K) rfl (pv 1)) bX (aF g.kR (F5 g) hr rfl (a8 (pv 0) a9))) a9))))))) aK)
   (aC (aJ (ptm aO (px K (pv 0) aA) aH)
    (aB (aE (aj (aF g.jo (Ew g) hr rfl (a8 (pv 1) a9)) (ao (ig cF de aA (pv 1) (aD ue aA aA)))))) aK)
   (aC (aJ (ptm aO (px K (pv 0) aA) aH)
    (aB (aE (aj (aP bM rfl g.bE bK (a8 (pv 1) (a8 (bG (v:=.ty "str") rfl g.cC cH rfl) a9))) (ao (aF g.gm (uA g) hr rfl (a8 (pv 1) a9)))))) aK)
   (aB (aE (aj (aF g.eM (lX g) hr rfl (a8 (pv 1) a9)) (ao (dZ (aF g.dG (iV g) hr rfl (a8 (aD (aQ (K:=K)) (aD (aQ (K:=K)) (aF g.dH (iW g) hr rfl (a8 (pv 0) a9)) (pv 1)) (aF g.dI (iX g) hr rfl (a8 (pv 0) a9))) a9)))))))))),?_⟩
  walk_at "rd";refine⟨_,_,.inr hp,c.at0,aX.mpr ⟨_,rfl,?_⟩⟩;rw[dz];refine ite2 (fun dl=>?_) (fun dl=>⟨_,_,.inr hp,c.at0,aX.mpr ⟨_,rfl,?_⟩⟩)
  ·cases c with
   |rest n=>
    cases hv with
    |@lst a xs ds hl r=>
     have Fn:=r.length;have BT:ds.length≤100000∧smallAll ds=true:=by simpa [smallD] using hs
     have e:(decide (0 < ds.length) && ds.all canD)=true:=ad;rw[Bool.and_eq_true,decide_eq_true_iff] at e;refine⟨"list",fu hl,ite2 (fun _=>cX.mpr ⟨xs,.inl (.of hl),fh.mpr ⟨_,rfl,ite2 (fun _=>⟨_,rfl,⟨_,.of hl⟩,fun p0 n0=>?_⟩) (fun z=>absurd (decide_eq_true (by lia)) z)⟩⟩) (fun z=>absurd (by decide) z)⟩;refine yY (zs:=(ds.map canD).map V.bl) (.of hl) (aI (by lia)) n0 (by rw[length_map,length_map,Fn]) (fun i x z hx hz H1 T s1 hT=>?_) (fun H1 s1 Cl=>?_)
     ·obtain⟨d,hd,hI⟩:=r.at i x hx;rw[List.getElem?_map,List.getElem?_map,hd] at hz;cases hz;walk_at "rd";exact⟨d,x,rfl,hI.mono s1,my BT.2 (mem_of_getElem? hd),fun H2 s2=>hT H2 s2⟩
     ·refine iz.mpr ⟨ds.map canD,.of Cl,?_⟩;rw[all_map,show ds.all (id ∘ canD)=true from e.2];exact k H1 s1
    |_=>cases ad
   |_=>cases dl
  rw[cL];refine ite2 (fun ld=>?_) (fun ld=>⟨_,_,.inr hp,c.at0,aX.mpr ⟨_,rfl,?_⟩⟩)
  ·cases c with
   |num n=>
    refine⟨d,v,rfl,hv,_,rfl,?_⟩;cases hv with
    |int i=>have h0:0≤i∧i < 10 ^ 60:=of_decide_eq_true ad;refine ite2 (fun _=>fh.mpr ⟨_,rfl,ite2 (fun _=>⟨⟨by decide,by decide,by decide⟩,fh.mpr ?_⟩) (fun z=>absurd (decide_eq_true h0.1) z)⟩) (fun z=>absurd rfl z);rw[decide_eq_true (show i < 10 ^ Int.toNat 60 from h0.2)];exact k H (Same.refl _)
    |_=>cases ad
   |_=>cases ld
  rw[jS];refine ite2 (fun hw=>?_) (fun hw=>?_)
  ·cases c with
   |word n=>
    cases hv with
    |str x=>exact⟨"str",rfl,ite2 (fun _=>⟨x.cps.toList,rfl,cw hs,fun H1 s1=>by rw[show wordB x.cps.toList=true from ad];exact k H1 s1⟩) (fun z=>absurd (by decide) z)⟩
    |_=>cases ad
   |_=>cases hw
  ·have e:(ftx d && !isDot (c.head++txD d++c.tail))=true:=by
    cases c with
    |part a b e=>exact ad
    |gap n=>rw[<- ad];show (ftx d && !isDot ([]++txD d++[]))=(ftx d && !isDot (txD d));rw[nil_append,append_nil]
    |step s=>cases hc
    |num n=>exact absurd rfl ld
    |word n=>exact absurd rfl hw
    |rest n=>exact absurd rfl dl
   rw[Bool.and_eq_true] at e;cases hv with
   |str x=>
    obtain⟨⟨l⟩⟩:=x;have hl:l.length≤100000:=cw hs;have b3:300000≤sizeLine:=by decide
    refine⟨_,_,rfl,.str _,hs,fun H1 s1=>⟨_,rfl,ite2 (fun _=>⟨c,p,rfl,s1.tup hp,bP.mpr ⟨Nat.le_trans (show c.head.length+l.length≤300000 by lia) b3,c,p,rfl,s1.tup hp,bP.mpr ⟨?_,?_⟩⟩⟩) (fun z=>absurd e.1 z)⟩⟩
    ·show ((⟨c.head.toArray⟩:Str)++⟨l.toArray⟩).length+c.tail.length≤_;rw[b7,aU,length_append];lia
    ·show sp_is_dot [V.str ((⟨c.head.toArray⟩:Str)++⟨l.toArray⟩++⟨c.tail.toArray⟩)] H1 _ E0;rw[b7,b7];exact⟨_,rfl,_,rfl,by rw[show (!isDot (c.head++l++c.tail))=true from e.2];exact k H1 s1⟩
   |_=>cases e.1
theorem Ff (g:G K mg):g.ka.Ok P w base 5 (sp_taken_way K g.aV):=by
 refine g.ka.F.ok cg (fun vs H Q E h=>?_) (fun FT A FJ s H vs Q E hr h=>?_)
 ·obtain⟨p,t,v,rest,i,ad,r,ss,e,rfl,_⟩:=h;rfl
 ·obtain⟨p,t,v,rest,i,ad,r,ss,e,rfl,dl,hi,hl,ld,hd,hw,he,FQ,Fn,FL,k⟩:=h;refine⟨_,(ae (sx 2 cg.nd (bJ (pv 0) g.aW g.bc (bq g) (hr.mono (by decide)) g.bb .nil pass0 (a8 aH a9)))
   (ae (aJ (PW.pt (cS (aR (pv 1)) (cj (ak (aR (pv 2))))))
    (aB (aE (al (a8 bA (a8 (al a9) (a8 bA a9)))))) aK)
   (aC (sx 3 cg.nd (aw a9))
   (aC (sx 4 cg.nd (pv 2))
   (ae (sx 5 cg.nd (bI (dvs:=[.non]) (dY g) (hr.mono (by decide)) rfl g.ce g.cQ.kp g.dN (.cons rfl .nil) pass0 (a8 (pv 0) (a8 (aM (v:=cM) rfl g.dP ⟨_,rfl⟩) a9))))
   (aC (da PassesOwn.never (ptm bB (pv 5) aH)
   (aC (bH (aq (K:=K) rfl PySem.F.plainAttrs_list PySem.F.slot_list_append PySem.F.type_list_append bU (pv 3) (a8 (pv 5) a9)))
   (aC (sx 4 cg.nd (bJ (pv 0) g.aW g.bc (bq g) (hr.mono (by decide)) g.bb .nil pass0 (a8 aH a9)))
   (aB (sx 5 cg.nd (bI (dvs:=[.non]) (dY g) (hr.mono (by decide)) rfl g.ce g.cQ.kp g.dN (.cons rfl .nil) pass0 (a8 (pv 0) (a8 (aM (v:=cM) rfl g.dP ⟨_,rfl⟩) a9))))))))
   (aB (aE (al (a8 (pv 2) (a8 (bD (cv (K:=K) rfl) rfl g.bn bw (a8 (pv 3) a9)) (a8 (pv 4) a9)))))))))))),?_⟩
  have eF:cM=.str ⟨frS.toArray⟩:=by show V.str (Str.ofString _)=_;unfold frS;simp
  have e1:Str.ofString "/"=⟨[47].toArray⟩:=by decide +kernel
  rw[eF,e1];walk_at "rd";refine⟨fun σ H1=>SameBut p H H1∧∃j,σ=[some (.ref p),some (.bl ad),some (.bl r),none,none,none]∧Cur H1 g.aV p t j∧j≤t.length∧t.drop j=v++rest,?_,?_⟩
  ·cases r with
   |true=>exact af dl (bd (w:=[47]) dl hi hl hd fun H1 s1 c1 FR FS=>⟨s1,_,rfl,c1,FR,FS⟩)
   |false=>exact af dl (ci dl hi hl (show t.drop i=v++rest from hd) (o8 hw FL) ⟨SameBut.refl _ _,i,rfl,dl,hi,hd⟩)
  rintro σ H1 ⟨s1,j,rfl,c1,hj,BT⟩;walk_at "rd";refine⟨fun σ H2=>H2=H1∧σ=[some (.ref p),some (.bl ad),some (.bl r),none,none,none],?_,?_⟩
  ·by_cases hm:ad=true
   ·rw[if_pos hm,if_neg (by rw[FQ hm];decide)];exact⟨rfl,rfl⟩
   ·rw[if_neg hm];exact⟨rfl,rfl⟩
  rintro σ H2 ⟨rfl,rfl⟩;walk_at "rd";refine⟨by decide,fun q H3 hq s3 FK=>?_⟩;have mt:q≠p:=by obtain⟨dx,hp⟩:=c1;exact (aY hp hq).symm
  have c3:=c1.same s3;have FI:SameBut p H H3:=s1.trans s3.but;have FN:H q=none:=s1.free hq mt;have FM:ss.length≤t.length:=by have h1:=AU hw;have h2:=congrArg List.length BT;rw[length_drop,length_append] at h2;lia
  obtain⟨W,hW⟩:∃W:Nat->St->Hp->Prop,W=fun m σ H'=>(∃(dn:List (List Nat)) (s:List Nat) (Fx:List (List Nat)) (v':List Nat) (j':Nat) (en:Bool),m=Fx.length+1∧σ=[some (.ref p),some (.bl ad),some (.bl r),some (.ref q),some (.bl en),some (.str ⟨s.toArray⟩)]∧s≠[]∧ss=dn++s::Fx∧TlW Fx e v'∧Cur H' g.aV p t j'∧j'≤t.length∧t.drop j'=v'++rest∧H' q=some (.lst (dn.map sV))∧SameBut p H H')
    ∨ (m=0∧σ=[some (.ref p),some (.bl ad),some (.bl r),some (.ref q),some (.bl e),some (.str ⟨#[]⟩)]∧H' q=some (.lst (ss.map sV))∧SameBut p H H'∧Cur H' g.aV p t (t.length - rest.length)):=⟨_,rfl⟩
  have rl:∀{FG:Nat}{v'':List Nat},t.drop FG=v''++rest->FG+v''.length=t.length - rest.length∨t.length < FG:=fun {FG v''} h=>by have:=congrArg List.length h;rw[length_drop,length_append] at this;lia
  refine⟨fun σ H4=>∃m,W m σ H4,?_,?_⟩
  ·cases hw with
   |none=>
    refine⟨p,t,frS,[],[],rest,j,none,rfl,c3,hj,hl,ld,dy,BT,.nil,.inl Fn,(fun m z=>by cases z),fun H4 s4 c4=>⟨0,?_⟩⟩;rw[hW];refine .inr ⟨rfl,by rw[he rfl],s4 _ _ mt FK,FI.trans s4,?_⟩;rcases rl (v'':=[]) BT with z|z
    ·rw[<- z];exact c4
    ·lia
   |some hws hs Fz=>
    rename_i s w0 ss0 v0;refine⟨p,t,frS,s,w0,v0++rest,j,none,rfl,c3,hj,hl,ld,dy,by rw[BT,append_assoc],hws,.inl (o7 Fz Fn),(fun m z=>by cases z),fun H4 s4 c4=>⟨ss0.length+1,?_⟩⟩;rw[hW];refine .inl ⟨[],s,ss0,v0,j+w0.length,r,rfl,rfl,hs,rfl,Fz,c4,?_,?_,s4 _ _ mt FK,FI.trans s4⟩
    ·have:=congrArg List.length BT;rw[length_drop,length_append,length_append] at this;lia
    ·rw[<- drop_drop,BT,append_assoc,drop_left]
  rintro σ H4 ⟨m,hm⟩;unfold L2.Later;rw[L2.iv];refine dj W m hm ?_;rintro m σ H5 hm;rw[hW] at hm;rcases hm with⟨dn,s,Fx,v',j',en,rfl,rfl,hs,FD,Fz,c5,FC,Fr,FB,FE⟩|⟨rfl,rfl,FB,FE,c5⟩
  ·walk_at "rd";refine ite2 (fun _=>⟨_,fun _ _ h=>h,⟨_,.of FB⟩,_,FB,?_,?_⟩) (fun z=>absurd (bZ.mp (Classical.not_not.mp z)) hs)
   ·have:=congrArg List.length FD;rw[length_append,length_cons] at this;rw[length_map];exact Nat.lt_of_le_of_lt (show dn.length≤100000 by lia) (by decide)
   have c6:Cur (upd H5 q (.lst (dn.map sV++[sV s]))) g.aV p t j':=by obtain⟨dx,hp⟩:=c5;exact⟨dx,by rw[aN mt.symm];exact hp⟩
   have Fy:SameBut p H (upd H5 q (.lst (dn.map sV++[sV s]))):=FE.upd FN;have FA:(upd H5 q (.lst (dn.map sV++[sV s]))) q=some (.lst ((dn++[s]).map sV)):=by rw[aL,map_append];rfl
   generalize upd H5 q (.lst (dn.map sV++[sV s]))=H6 at c6 Fy FA ⊢;cases Fz with
   |stop=>
    refine af c6 (ci c6 FC hl Fr FL ?_);refine⟨p,t,frS,[],[],rest,j',none,rfl,c6,FC,hl,ld,dy,Fr,.nil,.inl Fn,(fun m z=>by cases z),fun H7 s7 c7=>⟨0,by lia,?_⟩⟩;rw[hW];refine .inr ⟨rfl,rfl,by rw[FD];exact s7 _ _ mt FA,Fy.trans s7,?_⟩;rcases rl (v'':=[]) Fr with z|z
    ·rw[<- z];exact c7
    ·lia
   |ends=>
    refine af c6 (bd (w:=[47]) (r:=rest) c6 FC hl Fr fun H7 s7 c7 FH Cl=>?_);refine⟨p,t,frS,[],[],rest,_,none,rfl,c7,FH,hl,ld,dy,Cl,.nil,.inl Fn,(fun m z=>by cases z),fun H8 s8 c8=>⟨0,by lia,?_⟩⟩;rw[hW];refine .inr ⟨rfl,rfl,by rw[FD];exact (s7.trans s8) _ _ mt FA,(Fy.trans s7).trans s8,?_⟩;rcases rl (v'':=[]) Cl with z|z
    ·rw[<- z];exact c8
    ·lia
   |more hws hs2 htl2=>
    rename_i s2 w2 ss2 v2;refine af c6 (bd (w:=[47]) (r:=(w2++v2)++rest) c6 FC hl Fr fun H7 s7 c7 FH Cl=>?_);refine⟨p,t,frS,s2,w2,v2++rest,_,none,rfl,c7,FH,hl,ld,dy,by rw[Cl,append_assoc],hws,.inl (o7 htl2 Fn),(fun m z=>by cases z),fun H8 s8 c8=>⟨ss2.length+1,by simp only[length_cons];lia,?_⟩⟩;rw[hW];refine .inl ⟨dn++[s],s2,ss2,v2,_,true,rfl,rfl,hs2,by rw[FD,append_assoc];rfl,htl2,c8,?_,?_,(s7.trans s8) _ _ mt FA,(Fy.trans s7).trans s8⟩
    ·have:=congrArg List.length Cl;rw[length_drop,length_append,length_append] at this;lia
    ·rw[<- drop_drop,Cl,append_assoc,drop_left]
  ·walk_at "rd";exact⟨_,.inl (.of FB),fun pt Ha sa FP=>⟨by decide,fun pw Hb nb FF FO=>k _ Hb ((FE.trans sa.but).trans FF.but) ((c5.same sa).same FF) (wayT' FO (FF _ _ FP))⟩⟩
theorem uD (g:G K mg):g.gq.Ok P w base 5 (sp_taken_value K g.aV):=by
 refine g.gq.F.ok En (fun vs H Q E h=>?_) (fun Fn A ld s H vs Q E hr h=>?_)
 ·obtain⟨p,t,w,r,i,o,rfl,_⟩:=h;rfl
 ·obtain⟨p,t,w',r,i,o,rfl,ad,hi,hl,dl,hd,hw,mt,hh,k⟩:=h;refine⟨_,(aB (aE (b8 (aR (bJ (pv 0) g.aW g.bc (bq g) (hr.mono (by decide)) g.bb .nil pass0 (a8 aH a9))) (bI (dvs:=[.non]) (dY g) (hr.mono (by decide)) rfl g.ce g.cQ.kp g.dN (.cons rfl .nil) pass0 (a8 (pv 0) (a8 (aM (v:=eH) rfl g.iI ⟨_,rfl⟩) a9))) aS))),?_⟩;have eF:eH=.str ⟨frQ.toArray⟩:=by
   show V.str (Str.ofString _)=_;unfold frQ;simp
  have e1:Str.ofString "="=⟨[61].toArray⟩:=by decide +kernel
  rw[eF,e1];walk_at "rd";cases o with
  |none=>have hw:w'=[]:=hw;subst hw;refine af ad (ci ad hi hl hd (by simpa using hh) ⟨_,rfl,?_⟩);rw[if_neg (by decide)];exact k H (SameBut.refl _ _) ad
  |some s=>obtain⟨v,rfl,hv⟩:=hw;refine af ad (bd (w:=[61]) (r:=v++r) ad hi hl hd fun H1 s1 c1 BT Cl=>⟨_,rfl,?_⟩);rw[if_pos rfl];refine⟨p,t,frQ,s,v,r,_,none,rfl,c1,BT,hl,dl,gM,Cl,hv,.inl mt,(fun m z=>by cases z),fun H2 s2 c2=>k H2 (s1.trans s2) ?_⟩;rw[length_cons,show i+(v.length+1)=i+[61].length+v.length by simp only[length_singleton];lia];exact c2
theorem Fg (g:G K mg):g.kc.Ok P w base 5 (sp_taken_mark K g.aV):=by
 refine g.kc.F.ok Eo (fun vs H Q E h=>?_) (fun Cl A ld s H vs Q E hr h=>?_)
 ·obtain⟨p,t,w,i,o,rfl,_⟩:=h;rfl
 ·obtain⟨p,t,w',i,o,rfl,ad,hi,hl,dl,hd,hw,k⟩:=h;refine⟨_,(aB (aE (b8 (aR (bJ (pv 0) g.aW g.bc (bq g) (hr.mono (by decide)) g.bb .nil pass0 (a8 aH a9))) (bI (dvs:=[.non]) (dY g) (hr.mono (by decide)) rfl g.ce g.cQ.kp g.dN (.cons rfl .nil) pass0 (a8 (pv 0) (a8 (aM (v:=rn) rfl g.sh ⟨_,rfl⟩) a9))) aS))),?_⟩;have eF:rn=.str ⟨frM.toArray⟩:=by
   show V.str (Str.ofString _)=_;unfold frM;simp
  have e1:Str.ofString "#"=⟨[35].toArray⟩:=by decide +kernel
  rw[eF,e1];walk_at "rd";cases o with
  |none=>
   have hw:w'=[]:=hw;refine af ad (ci ad hi hl hd (by rw[hw];simp) ⟨_,rfl,?_⟩);rw[if_neg (by decide)];have e:i=t.length:=by have:=congrArg List.length hd;rw[length_drop,hw,length_nil] at this;lia
   exact k H (SameBut.refl _ _) (e▸ad)
  |some s=>
   obtain⟨v,rfl,hv⟩:=hw;refine af ad (bd (r:=v) ad hi hl hd fun H1 s1 c1 BT mt=>⟨_,rfl,?_⟩);rw[if_pos rfl];refine⟨p,t,frM,s,v,[],_,none,rfl,c1,BT,hl,dl,AS,by rw[mt,append_nil],hv,.inl jK,(fun m z=>by cases z),fun H2 s2 c2=>k H2 (s1.trans s2) ?_⟩;have e:i+[35].length+v.length=t.length:=by have:=congrArg List.length mt;rw[length_drop] at this;lia
   rw[e] at c2;exact c2
theorem uE (g:G K mg):FnOk P w K mg base CX0 5 g.iB g.eU ["cursor","free","most"] (sp_taken_filled_text K g.aV):=by
 refine g.iC.ok tY (fun vs H Q E h=>?_) (fun Fr A ld s H vs Q E hr h=>?_)
 ·obtain⟨p,t,fr,s,w,r,i,mo,rfl,_⟩:=h;rfl
 ·obtain⟨p,t,fr,s,w',r,i,mo,rfl,ad,hi,hl,dl,Fn,hd,hw,BT,mt,Cl,k⟩:=h;refine⟨_,(aC (sx 3 tY.nd (bI (dY g) (hr.mono (by decide)) rfl g.ce g.cQ.kp g.sN .nil pass0 (a8 (pv 0) (a8 (pv 1) (a8 (pv 2) a9)))))
   (aC (aJ (ptm aO (pv 3) aH)
    (aB bN) aK)
   (aB (aE (pv 3))))),?_⟩
  walk_at "rd";refine⟨p,t,fr,s,w',r,i,mo,rfl,ad,hi,hl,dl,Fn,hd,hw,mt,Cl,fun H1 s1 c1=>?_⟩;walk_at "rd";rw[if_neg (fun z=>BT (bZ.mp z))];exact k H1 s1 c1
theorem Fh (g:G K mg):g.kd.Ok P w base 6 (sp_is_pattern K):=by
 refine g.kd.F.ok Ep (fun vs H Q E h=>?_) (fun dl A ad s H vs Q E hr h=>?_)
 ·obtain⟨cs,e,v,rfl,_⟩:=h;rfl
 ·obtain⟨cs,e,v,rfl,hv,hG,k⟩:=h;refine⟨_,(aC (aJ (PW.pt (am (ak (aR (aF g.dF (iU g) hr rfl (a8 (pv 0) (a8 aA a9))))) (am (ak (aR (aP bM rfl g.bE bK (a8 (px K (pv 0) (aM (v:=cN) rfl g.cA ⟨_,rfl⟩)) (a8 (bG (v:=.ty "tuple") rfl g.bn bw rfl) a9))))) (ax (ak (aR (aP bM rfl g.bE bK (a8 (px K (pv 0) (aM (v:=ge) rfl g.fQ ⟨_,rfl⟩)) (a8 (bG (v:=.ty "bool") rfl g.lB mM rfl) a9)))))))))
    (aB (aE bA)) aK)
   (aB (aE (aj (aF g.kW (Fa g) hr rfl (a8 (px K (pv 0) (aM (v:=cN) rfl g.cA ⟨_,rfl⟩)) a9)) (ao (ck (px K (pv 0) (aM (v:=ge) rfl g.fQ ⟨_,rfl⟩)) (ao (pcm bT (aP (ac (K:=K) rfl) rfl g.aZ PySem.boot_len (a8 (px K (pv 0) (aM (v:=cN) rfl g.cA ⟨_,rfl⟩)) a9)) aA)))))))),?_⟩
  obtain⟨p,_,_,rfl,hp,h1,h2⟩:=isT2 hv;cases h2;obtain⟨q,xs,rfl,hq,hx⟩:=dv h1;have i0:=hv.is;have hs:SqT K H p [.ref q,.bl e]:=.of hp;walk_at "rd";refine⟨_,_,2,rfl,i0,_,rfl,ite2 (fun z=>absurd z (by rw[show tupN 2 (ptD cs e)=true from gU (n:=2).mpr rfl];decide)) (fun _=>?_)⟩;refine⟨_,_,.inr hs,aG (j:=0) rfl,_,L2.dm hq,ite2 (fun z=>absurd z (by decide)) (fun _=>⟨_,_,.inr hs,aG (j:=1) rfl,_,L2.mV,ite2 (fun z=>absurd z (by decide)) (fun _=>⟨_,_,.inr hs,aG (j:=0) rfl,cs,e,xs,q,rfl,hq,hx,hG,fun H1 s1=>⟨_,rfl,ite2 (fun _=>⟨_,_,.inr (s1.tup hs),aG (j:=1) rfl,e,rfl,?_⟩) (fun z=>absurd rfl z)⟩⟩)⟩)⟩;cases e with
  |true=>exact ite2 (fun _=>k H1 s1) (fun z=>absurd rfl z)
  |false=>
   refine ite2 (fun z=>by cases z) (fun _=>⟨_,_,.inr (s1.tup hs),aG (j:=0) rfl,?_⟩);walk_at "rd";refine⟨_,.inr (.of (s1 _ _ hq)),?_⟩;have h3:=(jj hx).1;rw[length_map] at h3;have h4:0 < cs.length:=length_pos_iff.mpr fun z=>by cases hG.2.2.2.2 z
   rw[decide_eq_true (show (0:Int) < (xs.length:Int) by lia)];exact k H1 s1
theorem Fi (g:G K mg):g.kf.Ok P w base 6 (sp_read_piece K):=by
 refine g.kf.F.ok lQ (fun vs H Q E h=>?_) (fun mt A ad s H vs Q E hr h=>?_)
 ·obtain⟨c,t,rfl,_⟩:=h;rfl
 ·obtain⟨c,t,rfl,hw,l1,k⟩:=h;refine⟨_,(aC (sx 1 lQ.nd (aq (K:=K) rfl PySem.F.plainAttrs_str PySem.F.slot_str_partition PySem.F.type_str_partition gI (pv 0) (a8 aH a9)))
   (aC (aJ (ptm aO (px K (pv 1) aA) aH)
    (aB (aE (al (a8 aH (a8 (bI (lY g) (hr.mono (by decide)) rfl g.i8 g.eR.kp g.i9 .nil pass0 (a8 (pv 0) (a8 (aM (v:=cM) rfl g.dP ⟨_,rfl⟩) a9))) a9))))) aK)
   (aC (sx 2 lQ.nd (aq (K:=K) rfl PySem.F.plainAttrs_str PySem.F.slot_str_partition PySem.F.type_str_partition gI (px K (pv 1) aA) (a8 aH a9)))
   (aC (aJ (ptm aO (px K (pv 2) aA) aH)
    (aB (aE aS)) aK)
   (aB (aE (aF g.kX (Fb g) hr rfl (a8 (px K (pv 1) aA) (a8 (px K (pv 2) aA) (a8 (px K (pv 2) aA) a9)))))))))),?_⟩
  have b1:Str.ofString "{"=⟨[123].toArray⟩:=by decide +kernel
  have b2:Str.ofString "}"=⟨[125].toArray⟩:=by decide +kernel
  have eF:cM=.str ⟨frS.toArray⟩:=congrArg V.str (gT _).symm;rw[b1,b2,eF];walk_at "rd";refine⟨by decide,aI (by lia),fun p hp=>?_⟩;rcases D3 hw with⟨s,rfl,hs⟩|⟨a,i,b,rfl,ha,hi,hg⟩
  ·rw[show Txt.partition ⟨t.toArray⟩ ⟨#[123]⟩=_ from pP fun z=>(eD hs _ z).2.1 rfl];refine⟨_,_,.inr (.of aL),aG (j:=1) rfl,aX.mpr ⟨_,rfl,ite2 (fun _=>⟨l1,jh hs,fun H1 s1=>⟨by decide,fun p2 H2 n2 s2 e2=>k _ _ ((av hp).trans (s1.trans s2)) ?_⟩⟩) (fun z=>absurd (decide_eq_true rfl) z)⟩⟩;rw[jg hs] at e2;exact .tup e2 (.cons (.str _) (.cons (.str _) .nil))
  ·rw[length_append,length_cons,length_append,length_cons] at l1;rw[show Txt.partition ⟨(a++123::(i++125::b)).toArray⟩ ⟨#[123]⟩=_ from jc ha];refine⟨_,_,.inr (.of aL),aG (j:=1) rfl,aX.mpr ⟨_,rfl,ite2 (fun z=>absurd (of_decide_eq_true z) (show (⟨#[123]⟩:Str)≠⟨#[]⟩ by decide)) (fun _=>?_)⟩⟩;generalize hH:upd H p _=H1;have s1:Same H H1:=hH▸av hp;have ld:SqT K H1 p [.str (mkS a),.str (mkS [123]),.str (mkS (i++125::b))]:=hH▸.of aL;refine⟨_,_,.inr ld,aG (j:=2) rfl,?_⟩;walk_at "rd";refine⟨by decide,aI (by rw[length_append,length_cons];lia),fun p2 dl=>?_⟩;rw[show Txt.partition ⟨(i++125::b).toArray⟩ ⟨#[125]⟩=_ from jc hi];refine⟨_,_,.inr (.of aL),aG (j:=1) rfl,aX.mpr ⟨_,rfl,ite2 (fun z=>absurd (of_decide_eq_true z) (show (⟨#[125]⟩:Str)≠⟨#[]⟩ by decide)) (fun _=>?_)⟩⟩;exact⟨_,_,.inr ((av dl).tup ld),aG (j:=0) rfl,_,_,.inr (.of aL),aG (j:=0) rfl,_,_,.inr (.of aL),aG (j:=2) rfl,c,a,i,b,rfl,hg,by lia,by lia,by lia,fun v H2 s2 hv=>k v H2 ((s1.trans (av dl)).trans s2) hv⟩
theorem Fj (g:G K mg):g.kg.Ok P w base 6 (sp_filled_steps K):=by
 refine g.kg.F.ok tZ (fun vs H Q E h=>?_) (fun FA A Cl s H vs Q E hr h=>?_)
 ·obtain⟨c,p,pz,ws,ys,ss,rfl,_⟩:=h;rfl
 ·obtain⟨c,p,pz,ws,ys,ss,rfl,hp,hh,ht,Fr,hw,Fz,Fx,ad,k⟩:=h;refine⟨_,(aC (aJ (ak (aR (aF g.eI (lT g) hr rfl (a8 (pv 0) a9))))
    (aB (aE (aw (a8 (px K (pv 0) aA) a9)))) aK)
   (aC (Av (i:=2) (K:=K) (fx:=["piece"]) (fr:=[0]) tZ.nd rfl rfl rfl rfl rfl (by decide +kernel) rfl (by decide +kernel) rfl rfl (by decide +kernel) rfl (.cons rfl rfl rfl rfl .nil) rfl (cY (K:=K) rfl (pv 1)) (fun _ _ _=>(fk (ptm aO (pv 0) (aF g.eJ (lU g) hr rfl (a8 (pv 2) a9))))) (fun _ _ _=>(pv 1)))
   (aC (aJ (PW.pt (am (ptm bB (aP (ac (K:=K) rfl) rfl g.aZ PySem.boot_len (a8 (pv 2) a9)) aA) (ax (ak (aR (aF g.kZ (Fe g) hr rfl (a8 (pv 0) (a8 (px K (pv 2) aA) a9))))))))
    (aB bN) aK)
   (aB (aE (aF g.k7 (EK g) hr rfl (a8 (pv 0) (a8 (px K (pv 2) aA) a9)))))))),?_⟩
  walk_at "rd";refine⟨c,p,rfl,hp,_,rfl,?_⟩;cases hst:c.isStep with
  |true=>
   refine ite2 (fun _=>?_) (fun z=>absurd rfl z);cases c with
   |step s=>cases ad;exact⟨_,_,.inr hp,aG (j:=1) rfl,by decide,fun p1 H1 n1 s1 ld=>k p1 H1 s1 ld⟩
   |_=>cases hst
  |false=>
   refine ite2 (fun z=>absurd z (by decide)) (fun _=>?_);have hyl:=hw.length;rw[ow hst] at ad;refine⟨⟨_,.of Fr⟩,fun p0 n0=>?_⟩;refine BZ (fun i=>prAt H ys i) (fun i=>decide ((ws[i]?.map (·.1))=some c.name)) (fun i=>(prAt H ys i).2) (.of Fr) (aI (by lia)) n0 (fun i x H1 hx s1=>?_) (fun i hi H1 R s1 hR=>?_) (fun i hi ht H1 T s1 hT=>?_) (fun H1 s1 ld=>?_)
   ·obtain⟨n,d,b,v,h1,rfl,h3,h4⟩:=hw.get hx;rw[jV hx h3];exact⟨b,rfl,.of (s1 _ _ h3)⟩
   ·have hx:ys[i]?=some ys[i]:=List.getElem?_eq_getElem hi;obtain⟨n,d,b,v,h1,h2,h3,h4⟩:=hw.get hx;rw[h2] at hx;rw[jV hx h3];have:=hR H1 (Same.refl _);rw[h1] at this;walk_at "rd";refine⟨c,p,rfl,s1.tup hp,hst,aX.mpr ⟨_,rfl,?_⟩⟩;have e:decide ((⟨n.toArray⟩:Str)=⟨c.name.toArray⟩)=decide ((some (n,d)).map (·.1)=some c.name):=by
     rw[decide_eq_decide,ar];exact⟨fun z=>by rw[z];rfl,fun z=>Option.some.inj z⟩
    rw[e];exact this
   ·walk_at "rd";exact hT H1 (Same.refl _)
   have dl:=C1 hw c.name (fun i=>(prAt H ys i).2) (fun i m d q v h1 h2 h3=>by rw[jV h2 h3]);have mt:H1 p0=some (.lst (((List.range ys.length).filter fun i=>decide ((ws[i]?.map (·.1))=some c.name)).map fun i=>(prAt H ys i).2)):=ld;generalize (((List.range ys.length).filter fun i=>decide ((ws[i]?.map (·.1))=some c.name)).map fun i=>(prAt H ys i).2)=ls at dl mt;clear ld;have Fn:∀d∈named ws c.name,smallD d=true:=fun d hd=>by obtain⟨q,hq,rfl⟩:=mem_map.mp hd;exact Fx q (mem_filter.mp hq).1
   have Fy:=dl.length;cases hn:named ws c.name with
   |nil=>rw[hn] at ad;cases ad
   |cons d r=>
    cases r with
    |cons d2 r2=>rw[hn] at ad;cases ad
    |nil=>
     rw[hn] at ad Fy dl Fn;have ad:(if isValD c d=true then (.ok (stpsD c d):Except (List Nat) (List (List Nat))) else .error c.name)=.ok ss:=ad;by_cases hv:isValD c d=true
     ·rw[if_pos hv] at ad;cases ad;refine cX.mpr ⟨ls,.inl (.of mt),iw.mpr ⟨_,rfl,ite2 (fun z=>absurd z (by rw[<- Fy];simp)) (fun _=>?_)⟩⟩;have hd:smallD d=true:=Fn d (mem_singleton.mpr rfl);obtain⟨u,rfl,hu⟩:∃u,ls=[u]∧Is H d u:=by
       cases dl with
       |cons h r=>cases r;exact⟨_,rfl,h⟩
      refine az.mpr ⟨_,u,.inl (.of mt),rfl,c,p,d,u,rfl,s1.tup hp,hst,hh,ht,hu.mono s1,hd,hv,fun H2 s2=>⟨_,rfl,ite2 (fun z=>by cases z) (fun _=>?_)⟩⟩;have BT:=s1.trans s2;exact az.mpr ⟨_,u,.inl (.of (s2 _ _ mt)),rfl,c,p,d,u,rfl,BT.tup hp,hst,hh,ht,hu.mono BT,hd,hv,fun q H3 s3 hq=>k q H3 (BT.trans s3) hq⟩
     ·rw[if_neg hv] at ad;cases ad
theorem Fk (g:G K mg):g.kh.Ok P w base 6 (sp_lead K):=by
 refine g.kh.F.ok lR (fun vs H Q E h=>?_) (fun FC A BT s H vs Q E hr h=>?_)
 ·obtain⟨l,pw,ps,t,ws,r,e,ss,rfl,_⟩:=h;rfl
 ·obtain⟨l,pw,ps,t,ws,r,e,ss,rfl,hl,hT,ot,Fr,Fx,Fn,Cl,mt,k⟩:=h;refine⟨_,(ae (cmpS ["way"] [1] 2 lR.nd (cY (K:=K) rfl (pv 0)) (fk (aR (aF g.gp (uC g) hr rfl (a8 (px K (pv 0) aA) (a8 (pv 1) a9))))) (pv 0))
   (aC (aJ (ptm aO (aP (ac (K:=K) rfl) rfl g.aZ PySem.boot_len (a8 (pv 2) a9)) aA)
    (aB (aE aS)) aK)
   (aC (sx 3 lR.nd (aF g.js (EA g) hr rfl (a8 (pv 2) a9)))
   (aB (aE (al (a8 (px K (pv 3) aA) (a8 (aF g.kY (Fc g) hr rfl (a8 (px K (pv 3) aA) (a8 (pv 1) a9))) a9)))))))),?_⟩
  walk_at "rd";cases hT with
  |cons hr0 hT0=>
  cases hT0;obtain⟨a,p,rfl,ha,q,xs,hp,hq,hx⟩:=hr0;have o90:=ot.1;have oe:PcSz t.2.1:=fun c hc=>by have:=(ot.2 c hc).1.ends;exact⟨by lia,by lia⟩
  refine⟨fun σ H1=>Same H H1∧∃l1:Addr,σ=[some (.ref l),some (.ref pw),some (.ref l1),none]∧H1 l1=some (.lst [.ref a]),⟨⟨_,.of hl⟩,fun l1 n1=>?_⟩,?_⟩
  ·refine CO (fun _=>true) (fun _=>.ref a) (.of hl) (show 1≤sizeLine by decide) n1 (fun i x dl H1 R s1 hR=>?_) (fun i x dl ht H1 T' s1 FB=>?_) (fun H1 s1 ld=>⟨s1,l1,rfl,ld⟩)
   ·cases i with
    |succ i=>cases dl
    |zero=>
    cases dl;walk_at "rd";refine⟨_,_,.inr (.of (s1 _ _ ha)),aG (j:=1) rfl,?_⟩;exact⟨t.2.1,xs,p,q,pw,ps,t.2.2,r,e,ss,rfl,.of (s1 _ _ hp),s1 _ _ hq,(hx.mono s1.toT).all,by lia,oe,.of (s1 _ _ Fr),.of (s1 _ _ Fx),Fn,Cl,fun H2 s2=>⟨_,rfl,by have:=hR H2 s2;unfold fitR at mt;rw[mt];exact this⟩⟩
   ·cases i with
    |succ i=>cases dl
    |zero=>
    cases dl;walk_at "rd";exact FB H1 (Same.refl _)
  rintro σ H1 ⟨s1,l1,rfl,ld⟩;walk_at "rd";refine⟨_,.inl (.of ld),ite2 (fun z=>absurd z (show ¬ ((1:Nat):Int)=0 by decide)) (fun _=>⟨l1,_,rfl,ld,fun H2 s2=>?_⟩)⟩;have ad:=s1.trans s2;walk_at "rd";refine⟨_,_,.inr (.of (ad _ _ ha)),aG (j:=0) rfl,_,_,.inr (.of (ad _ _ ha)),aG (j:=1) rfl,?_⟩;refine⟨_,xs,p,q,pw,ps,_,r,e,ss,rfl,.of (ad _ _ hp),ad _ _ hq,(hx.mono ad.toT).all,by lia,oe,.of (ad _ _ Fr),ad _ _ Fx,Fn,Cl,(fun z=>by unfold fitR at mt;rw[mt] at z;cases z),fun _ l' ys H3 Fy _ s3 FA hB=>⟨by decide,fun p4 H4 n4 s4 Fz=>k p4 l' ys H4 (pG ad Fy) ((ad.trans s3).trans s4) Fz (s4 _ _ FA) (hB.mono s4)⟩⟩
theorem Fl (g:G K mg):g.ki.Ok P w base 6 (sp_taken_house K g.aV):=by
 refine g.ki.F.ok Er (fun vs H Q E h=>?_) (fun Fx A ld s H vs Q E hr h=>?_)
 ·obtain⟨p,t,w,r,i,o,rfl,_⟩:=h;rfl
 ·obtain⟨p,t,w',r,i,o,rfl,ad,hi,hl,dl,hd,hw,mt,hh,k⟩:=h;refine⟨_,(aC (aJ (ak (aR (bJ (pv 0) g.aW g.bc (bq g) (hr.mono (by decide)) g.bb .nil pass0 (a8 aH a9))))
    (aB (aE aS)) aK)
   (aB (aE (bI (uE g) (hr.mono (by decide)) rfl g.kt g.iC.kp g.sQ .nil pass0 (a8 (pv 0) (a8 aH (a8 (aM (v:=Dp) rfl g.su ⟨_,rfl⟩) a9))))))),?_⟩
  have e1:Str.ofString "//"=⟨[47,47].toArray⟩:=by decide +kernel
  rw[e1];walk_at "rd";cases o with
  |none=>have hw:w'=[]:=hw;subst hw;refine af ad (lV ad hi hl (by rw[hd];exact hh rfl) ⟨_,rfl,?_⟩);rw[if_pos rfl];exact k H (SameBut.refl _ _) ad
  |some s=>obtain⟨v,rfl,hv,Cl,BT⟩:=hw;refine af ad (bd (w:=[47,47]) (r:=v++r) ad hi hl hd fun H1 s1 c1 Fn Fr=>⟨_,rfl,?_⟩);rw[if_neg (by decide)];refine⟨p,t,[],s,v,r,_,some 60,rfl,c1,Fn,hl,dl,by decide,Fr,hv,Cl,.inl (mt (by simp)),(fun m z=>by cases z;exact BT),fun H2 s2 c2=>k H2 (s1.trans s2) ?_⟩;rw[length_cons,length_cons,show i+(v.length+1+1)=i+[47,47].length+v.length by simp only[length_cons,length_nil];lia];exact c2
theorem Fm (g:G K mg):g.kj.Ok P w base 6 (sp_taken_question K g.aV):=by
 refine g.kj.F.ok iS (fun vs H Q E h=>?_) (fun FW A FL s H vs Q E hr h=>?_)
 ·obtain⟨p,t,w,rest,i,qs,rfl,_⟩:=h;rfl
 ·obtain⟨p,t,w',rest,i,qs,rfl,ad,hi,hl,dl,hd,hw,Fy,k⟩:=h;refine⟨_,(aC (aJ (ak (aR (bJ (pv 0) g.aW g.bc (bq g) (hr.mono (by decide)) g.bb .nil pass0 (a8 aH a9))))
    (aB (aE aS)) aK)
   (aC (sx 1 iS.nd (bI (dvs:=[.non]) (dY g) (hr.mono (by decide)) rfl g.ce g.cQ.kp g.dN (.cons rfl .nil) pass0 (a8 (pv 0) (a8 (aM (v:=eH) rfl g.iI ⟨_,rfl⟩) a9))))
   (ae (aJ (ptm aO (pv 1) aH)
    (aB (aE (al a9))) aK)
   (ae (sx 2 iS.nd (aw (a8 (al (a8 (pv 1) (a8 (aF g.gq (uD g) hr rfl (a8 (pv 0) a9)) a9))) a9)))
   (aC (da PassesOwn.never (aR (bJ (pv 0) g.aW g.bc (bq g) (hr.mono (by decide)) g.bb .nil pass0 (a8 aH a9)))
   (aC (sx 1 iS.nd (bI (dvs:=[.non]) (uE g) (hr.mono (by decide)) rfl g.kt g.iC.kp g.sP (.cons rfl .nil) pass0 (a8 (pv 0) (a8 (aM (v:=eH) rfl g.iI ⟨_,rfl⟩) a9))))
   (aB (bH (aq (K:=K) rfl PySem.F.plainAttrs_list PySem.F.slot_list_append PySem.F.type_list_append bU (pv 2) (a8 (al (a8 (pv 1) (a8 (aF g.gq (uD g) hr rfl (a8 (pv 0) a9)) a9))) a9))))))
   (aB (aE (bD (cv (K:=K) rfl) rfl g.bn bw (a8 (pv 2) a9))))))))),?_⟩
  have eF:eH=.str ⟨frQ.toArray⟩:=by show V.str (Str.ofString _)=_;unfold frQ;simp
  have e1:Str.ofString "?"=⟨[63].toArray⟩:=by decide +kernel
  have e2:Str.ofString "&"=⟨[38].toArray⟩:=by decide +kernel
  rw[eF,e1,e2];have rl:∀{Fx:Nat}{v'':List Nat},t.drop Fx=v''++rest->Fx≤t.length->Fx+v''.length=t.length - rest.length:=fun {Fx v''} h hj=>by have:=congrArg List.length h;rw[length_drop,length_append] at this;lia
  have Cl:rest.head?≠some 63∧rest.head?≠some 38:=by
   rcases Fy with rfl|⟨x,rfl⟩
   ·exact⟨by simp,by simp⟩
   ·exact⟨by simp,by simp⟩
  walk_at "rd";cases qs with
  |none=>have hw:w'=[]:=hw;subst hw;refine af ad (ci ad hi hl hd Cl.1 ⟨_,rfl,?_⟩);rw[if_pos rfl];have:=rl hd hi;exact k _ H (SameBut.refl _ _) (this▸ad) .non
  |some ps=>
   cases ps with
   |nil=>have hw:w'=[63]:=hw;subst hw;refine af ad (bd (w:=[63]) (r:=rest) ad hi hl hd fun H1 s1 c1 FB mt=>⟨_,rfl,?_⟩);rw[if_neg (by decide)];refine⟨p,t,frQ,[],[],rest,_,none,rfl,c1,FB,hl,dl,gM,mt,.nil,.inl (jN .nil Fy).1,(fun m z=>by cases z),fun H2 s2 c2=>?_⟩;refine⟨fun _ _=>False,?_,fun _ _ z=>z.elim⟩;rw[L2.aX,decide_eq_true rfl];refine⟨_,rfl,?_⟩;rw[if_pos rfl];have:=rl (v'':=[]) mt FB;exact⟨by decide,fun pt Ha n1 sa Fn=>k _ Ha ((s1.trans s2).trans sa.but) (this▸c2.same sa) (.tup Fn .nil)⟩
   |cons pr ps=>
    obtain⟨n,o⟩:=pr;obtain⟨a,v,r,rfl,ha,hn,hv,FE⟩:=hw;have FM:=jN FE Fy;refine af ad (bd (w:=[63]) (r:=a++(v++(r++rest))) ad hi hl (by rw[hd];simp) fun H1 s1 c1 FB mt=>⟨_,rfl,?_⟩);rw[if_neg (by decide)];refine⟨p,t,frQ,n,a,v++(r++rest),_,none,rfl,c1,FB,hl,dl,gM,mt,ha,.inl (o9 hv FM.1),(fun m z=>by cases z),fun H2 s2 c2=>?_⟩;refine⟨fun σ H'=>H'=H2∧σ=[some (.ref p),some (.str ⟨n.toArray⟩),none],?_,?_⟩
    ·rw[L2.aX];refine⟨_,rfl,?_⟩;rw[if_neg (by rw[decide_eq_false (fun z=>hn (bZ.mp z))];decide)];exact⟨rfl,rfl⟩
    rintro σ H' ⟨rfl,rfl⟩;have FS:i+[63].length+a.length≤t.length:=by have:=congrArg List.length mt;rw[length_drop,length_append] at this;lia
    have FI:t.drop (i+[63].length+a.length)=v++(r++rest):=by rw[<- drop_drop,mt,drop_left]
    have FU:=s1.trans s2;walk_at "rd";obtain⟨W,hW⟩:∃W:Nat->St->Hp->Prop,W=fun m σ H4=>∃(dn Fr:List (List Nat×Option (List Nat))) (r':List Nat) (j:Nat) (q:Addr) (v1:Option V) (vs:List V),m=Fr.length∧σ=[some (.ref p),v1,some (.ref q)]∧(n,o)::ps=dn++Fr∧PrsW Fr r'∧Cur H4 g.aV p t j∧j≤t.length∧t.drop j=r'++rest∧H4 q=some (.lst vs)∧PrL H4 vs dn∧SameBut p H H4∧H q=none∧q≠p:=⟨_,rfl⟩;refine⟨fun σ H4=>∃m,W m σ H4,?_,?_⟩
    ·refine⟨p,t,v,r++rest,_,o,rfl,c2,FS,hl,dl,FI,hv,FM.1,FM.2,fun H3 s3 c3=>⟨by decide,fun p1 Ha n1 sa Fn=>⟨by decide,fun q Hb nq sb hq=>⟨ps.length,?_⟩⟩⟩⟩;rw[hW];have ld:q≠p:=by obtain⟨dx,hp⟩:=c3.same sa;exact (aY hp nq).symm
     have FJ:SameBut p H Ha:=(FU.trans s3).trans sa.but;refine⟨[(n,o)],ps,r,_,q,_,_,rfl,rfl,rfl,FE,(c3.same sa).same sb,?_,?_,hq,⟨rfl,fun i' a' y z1 z2=>?_⟩,FJ.trans sb.but,FJ.free nq ld,ld⟩
     ·have:=congrArg List.length FI;rw[length_drop,length_append] at this;lia
     ·rw[<- drop_drop,FI,drop_left]
     ·cases i' with
      |zero=>cases z1;cases z2;exact .tup (sb _ _ Fn) (.cons (.str _) (.cons (bY _) .nil))
      |succ j=>cases z1
    rintro σ H4 ⟨m,hm⟩;unfold L2.Later;rw[L2.iv];refine dj W m hm ?_;rintro m σ H5 hm;rw[hW] at hm;obtain⟨dn,Fr,r',j,q,v1,vs,rfl,rfl,FC,FD,c5,FF,FH,Fz,FA,FK,FN,ld⟩:=hm;have FT:dn.length≤100000:=by have h1:=congrArg List.length FC;rw[length_append,length_cons] at h1;have h2:=AV FE;have h3:=congrArg List.length hd;rw[length_drop] at h3;simp only[length_cons,length_append] at h3;lia
    walk_at "rd";cases FD with
    |nil=>refine af c5 (ci c5 FF hl FH Cl.2 ⟨_,rfl,?_⟩);rw[if_neg (by decide)];rw[append_nil] at FC;refine⟨vs,.inl (.of Fz),fun l Ha sa FQ=>?_⟩;have:=rl (v'':=[]) FH FF;refine k _ Ha (FK.trans sa.but) (this▸c5.same sa) ?_;rw[FC];exact .tup FQ (oA (g:=pD) FA.1 fun i' a' y z1 z2=>(FA.2 i' a' y z1 z2).mono sa.toT)
    |cons hwn hne hv2 hps2=>
     rename_i n2 w2 v2 o2 ps2 r2;have BT:=jN hps2 Fy;refine af c5 (bd (w:=[38]) (r:=w2++(v2++(r2++rest))) c5 FF hl (by rw[FH];simp) fun H6 s6 c6 FR FG=>⟨_,rfl,?_⟩);rw[if_pos rfl];have FO:t.drop (j+[38].length+w2.length)=v2++(r2++rest):=by rw[<- drop_drop,FG,drop_left]
     have FV:=congrArg List.length FG;rw[length_drop,length_append,length_append] at FV;refine⟨_,fun _ _ h=>h,p,t,frQ,n2,w2,v2++(r2++rest),_,none,rfl,c6,FR,hl,dl,gM,FG,hwn,hne,.inl (o9 hv2 BT.1),(fun m z=>by cases z),fun H7 s7 c7=>⟨⟨_,.of ((s6.trans s7) _ _ ld Fz)⟩,p,t,v2,r2++rest,_,o2,rfl,c7,by lia,hl,dl,FO,hv2,BT.1,BT.2,fun H8 s8 c8=>⟨by decide,fun p1 Ha n1 sa Fn=>⟨vs,sa _ _ (((s6.trans s7).trans s8) _ _ ld Fz),?_,ps2.length,Nat.lt_succ_self _,?_⟩⟩⟩⟩
     ·rw[FA.1];exact Nat.lt_of_le_of_lt FT (by decide)
     rw[hW];have FP:Ha q=some (.lst vs):=sa _ _ (((s6.trans s7).trans s8) _ _ ld Fz);refine⟨dn++[(n2,o2)],ps2,r2,j+[38].length+w2.length+v2.length,q,_,_,rfl,rfl,by rw[FC,append_assoc];rfl,hps2,?_,?_,?_,aL,?_,?_,FN,ld⟩
     ·obtain⟨dx,hp⟩:=c8.same sa;exact⟨dx,by rw[aN ld.symm];exact hp⟩
     ·lia
     ·rw[<- drop_drop,FO,drop_left]
     ·refine PrL.mono (PrL.snoc ((((FA.mono (c5.toT s6)).mono (c6.toT s7)).mono (c7.toT s8)).mono sa.toT) ?_) (ft FP);exact .tup Fn (.cons (.str _) (.cons (bY _) .nil))
     ·exact ((((FK.trans s6).trans s7).trans s8).trans sa.but).upd FN
theorem Fo (g:G K mg):g.kl.Ok P w base 7 (sp_read_pattern K):=by
 refine g.kl.F.ok iT (fun vs H Q E h=>?_) (fun Fr A dl s H vs Q E hr h=>?_)
 ·obtain⟨cs,e,ws,rfl,_⟩:=h;rfl
 ·obtain⟨cs,e,ws,rfl,hw,hc,hG,k⟩:=h;refine⟨_,(aC (aJ (PW.pt (am (ak (aR (aP bM rfl g.bE bK (a8 (pv 0) (a8 (bG (v:=.ty "str") rfl g.cC cH rfl) a9))))) (ax (ak (aR (aq (K:=K) rfl PySem.F.plainAttrs_str PySem.F.slot_str_startswith PySem.F.type_str_startswith oS (pv 0) (a8 aH a9)))))))
    (aB bN) aK)
   (aC (sx 1 iT.nd (aq (K:=K) rfl PySem.F.plainAttrs_str PySem.F.slot_str_split PySem.F.type_str_split Cz (ay (cr (K:=K) rfl) (pv 0) (au aA) b9) (a8 aH a9)))
   (aC (sx 2 iT.nd (pcm aO (px K (pv 1) (cT cU aA)) aH))
   (aC (sx 3 iT.nd (bD (cv (K:=K) rfl) rfl g.bn bw (a8 (cmp1 [] [] (cY (K:=K) rfl (b8 (aR (pv 2)) (ay (fw (K:=K) rfl) (pv 1) b9 (au (cT cU aA))) (pv 1))) bX (aF g.kf (Fi g) hr rfl (a8 (pv 0) a9))) a9)))
   (aC (aJ (ak (aR (aF g.kd (Fh g) hr rfl (a8 (al (a8 (pv 3) (a8 (pv 2) a9))) a9))))
    (aB bN) aK)
   (aB (aE (al (a8 (pv 3) (a8 (pv 2) a9)))))))))),?_⟩
  have b1:Str.ofString "/"=⟨[47].toArray⟩:=by decide +kernel
  obtain⟨a1,hf,h0⟩:=CZ hw hG.2.2.2.2;have Fn:=hw.length;have hl:=hG.2.2.2.1;rw[b1,a1];walk_at "rd";have hj:(joinT 47 (ws++if e then [[]] else [])).length≤13 * 701:=Nat.le_trans (D0 47 700 (ws:=ws++if e then [[]] else []) fun t ht=>by
   rcases mem_append.mp ht with z|z
   ·exact hc t z
   ·cases e with
    |false=>cases z
    |true=>rw[mem_singleton.mp z];exact Nat.zero_le _).1 (Nat.mul_le_mul_right _ (by rw[length_append];cases e <;> simp <;> lia))
  refine ite2 (fun z=>absurd rfl z) (fun _=>⟨aI (by lia),by lia,fun pt nt=>?_⟩);rw[show Txt.split ⟨(joinT 47 (ws++if e then [[]] else [])).toArray⟩ ⟨#[47]⟩=_ from CW hf h0,map_map];generalize hH:upd H pt _=H1;have s1:Same H H1:=hH▸av nt;have ad:SqL K H1 pt ((ws++if e then [[]] else []).map tV):=hH▸.of aL;have F:∀(pa:Addr) (H2:Hp),Same H H2->SqL K H2 pa (ws.map tV)->∀p,H2 p=none->∀Z:VK,(∀(pl:Addr) (ys:List V) (H3:Hp),Same H H3->H3 pl=some (.lst ys)->IsTAll H3 (cs.map pcD) ys->Z (.ref pl) H3)->CompI (Itl K pa) p [] tYes (tCall (sp_read_piece K) [] E0 (tCons (tVar 0) tNil)) Z H2:=fun pa H2 s2 h2 p np Z hZ=>by refine D4 (g:=pcD) h2 (aI (by rw[length_map];lia)) np (by rw[length_map,Fn]) (fun i x c hx hd H3 T s3 hT=>?_) (fun ys H3 s3 hA e3=>hZ p ys H3 (s2.trans s3) e3 hA);rw[List.getElem?_map] at hx;obtain⟨t,ht,rfl⟩:=Option.map_eq_some_iff.mp hx;obtain⟨c',Cl,mt⟩:=hw.get ht;cases hd.symm.trans Cl;walk_at "rd";exact⟨c,t,rfl,mt,by have:=hc t (mem_of_getElem? ht);lia,hT⟩
  obtain⟨tl,BT,eE⟩:∃tl,(ws++if e then [[]] else []).getLast?=some tl∧decide (mkS tl=⟨#[]⟩)=e:=by
   cases e with
   |true=>exact⟨[],by simp,decide_eq_true rfl⟩
   |false=>rw[if_neg (by decide),append_nil] at h0 ⊢;obtain⟨c,_,h⟩:=hw.get (i:=ws.length - 1) (by rw[<- List.getLast?_eq_getElem?];exact List.getLast?_eq_some_getLast h0);exact⟨_,List.getLast?_eq_some_getLast h0,decide_eq_false fun z=>(pV h).1 (bZ.mp z)⟩
  refine⟨_,_,.inl ad,nX tV BT,aX.mpr ⟨_,rfl,?_⟩⟩;rw[eE];have T:∀(pl:Addr) (ys:List V) (H3:Hp),Same H H3->H3 pl=some (.lst ys)->IsTAll H3 (cs.map pcD) ys->rTupleS K [.ref pl] H3 fun x H1=>2≤sizeLine∧∀(p:Addr) (H':Hp),H1 p=none->Same H1 H'->H' p=some (HO.tup [x,V.bl e])->sp_is_pattern K [V.ref p] H' (fun ld H'=>∃k,ld=V.bl k∧if k=false then False else 2≤sizeLine∧∀(p:Addr) (H'_1:Hp),H' p=none->Same H' H'_1->H'_1 p=some (HO.tup [x,V.bl e])->Q (V.ref p) H'_1) E0:=fun pl ys H3 s3 e3 i3=>
   ⟨pl,ys,rfl,.inl (.of e3),fun p4 H4 s4 e4=>⟨by decide,fun p5 H5 n5 s5 e5=>⟨cs,e,_,rfl,.tup e5 (.cons (.tup (s5 _ _ e4) (i3.mono (s4.trans s5).toT)) (.cons (.bl _) .nil)),hG,fun H6 s6=>⟨_,rfl,ite2 (fun z=>by cases z) (fun _=>⟨by decide,fun p7 H7 n7 s7 e7=>k _ _ (s3.trans (s4.trans (s5.trans (s6.trans s7)))) (.tup e7 (.cons (.tup ((s5.trans (s6.trans s7)) _ _ e4) (i3.mono (s4.trans (s5.trans (s6.trans s7))).toT)) (.cons (.bl _) .nil)))⟩)⟩⟩⟩⟩
  refine ite2 (fun he=>⟨_,ad,fun p2 H2 n2 s2 e2=>?_⟩) (fun he=>?_)
  ·rw[pT,if_pos he,map_append,map_cons,map_nil,List.dropLast_concat] at e2;exact⟨⟨_,.of e2⟩,fun p np=>F p2 H2 (s1.trans s2) (.of e2) p np _ T⟩
  ·rw[if_neg he,append_nil] at ad;exact⟨⟨_,ad⟩,fun p np=>F pt H1 s1 ad p np _ T⟩
theorem Fp (g:G K mg):g.km.Ok P w base 7 (sp_filled K):=by
 refine g.km.F.ok lS (fun vs H Q E h=>?_) (fun FI A BT s H vs Q E hr h=>?_)
 ·obtain⟨cs,xs,p,q,pz,cl,ws,ys,ss,rfl,_⟩:=h;rfl
 ·obtain⟨cs,xs,p,q,pz,cl,ws,ys,sz,rfl,hp,hq,hx,hn,FA,Fr,hw,Fn,Cl,ad,k⟩:=h;refine⟨_,(aC (sx 2 lS.nd (aw a9))
   (aC (bO PassesOwn.never rfl (cu (K:=K) rfl (px K (pv 0) (aM (v:=cN) rfl g.cA ⟨_,rfl⟩))) (pgn 3 lS.nd)
   (aB (bH (aq (K:=K) rfl PySem.F.plainAttrs_list PySem.F.slot_list_extend PySem.F.type_list_extend vf (pv 2) (a8 (aF g.kg (Fj g) hr rfl (a8 (pv 3) (a8 (pv 1) a9))) a9)))))
   (aC (bH (aF g.kJ (EX g) hr rfl (a8 (pv 0) (a8 (pv 1) a9))))
   (aB (aE (al (a8 bA (a8 (bD (cv (K:=K) rfl) rfl g.bn bw (a8 (pv 2) a9)) (a8 (px K (pv 0) (aM (v:=ge) rfl g.fQ ⟨_,rfl⟩)) a9))))))))),?_⟩
  walk_at "rd";have FH:=hx.length;have ld:fillF cs ws=.ok sz∧otherM cs ws=none:=by
   unfold fillM at ad;cases h1:fillF cs ws with
   |error n=>rw[h1] at ad;cases ad
   |ok ss=>
    rw[h1] at ad;cases h2:otherM cs ws with
    |some n=>rw[h2] at ad;cases ad
    |none=>rw[h2] at ad;cases ad;exact⟨rfl,rfl⟩
  refine⟨by decide,fun p1 H1 n1 s1 FF=>⟨_,_,.inr (s1.tup hp),rfl,q,rfl,⟨_,s1.tup hq⟩,?_⟩⟩;refine yb (xs:=xs) (fun i σ H'=>SameBut p1 H H'∧∃(v3:Option V) (ss:List (List Nat)),σ=[some (.ref p),some (.ref pz),some (.ref p1),v3]∧fillF (cs.take i) ws=.ok ss∧H' p1=some (.lst (ss.map tV))∧ss.length≤i * 100000) ⟨Same.but s1,none,[],rfl,by rw[take_zero];rfl,FF,Nat.zero_le _⟩ (fun i σ H' _ h=>(h.1.same n1).tup hq) ?_ ?_
  ·rintro i x σ H2 Fz ⟨sb,v3,ss,rfl,hf,dl,FB⟩;obtain⟨c,pc,hc,rfl,hv⟩:=hx.get Fz;have s2:=sb.same n1;have hi:i < cs.length:=(List.getElem?_eq_some_iff.mp hc).1;obtain⟨Fy,Fx⟩:=FA c (mem_of_getElem? hc);obtain⟨s',mt⟩:∃s',fillS c ws=.ok s':=by
    cases h:fillS c ws with
    |ok s'=>exact⟨s',rfl⟩
    |error n=>rw[ou hc hf h] at ld;cases ld.1
   walk_at "rd";refine⟨⟨_,.of dl⟩,c,pc,pz,ws,ys,s',rfl,s2.tup hv,Fy,Fx,s2 _ _ Fr,hw.mono s2,Fn,Cl,mt,fun q2 H3 s3 FD=>?_⟩;have hb:=C2 mt Cl;have FG:i * 100000≤99 * 100000:=Nat.mul_le_mul_right _ (by lia);refine om.mpr ⟨_,_,s3 _ _ dl,FD,?_,?_⟩
   ·rw[length_map,length_map];exact Nat.le_trans (show ss.length+s'.length≤10000000 by lia) (by decide)
   ·refine⟨(sb.trans s3.but).trans bg,_,ss++s',rfl,oq hc hf mt,by rw[aL,map_append],?_⟩;rw[length_append,Nat.add_mul];lia
  ·rintro σ H2 ⟨sb,v3,ss,rfl,hf,dl,FB⟩;have s2:=sb.same n1;rw[FH,take_length,ld.1] at hf;cases hf;walk_at "rd";refine⟨cs,xs,p,q,pz,cl,ws,ys,rfl,s2.tup hp,s2.tup hq,hx.mono s2,hn,s2 _ _ Fr,hw.mono s2,Fn,ld.2,fun H3 s3=>?_⟩;refine⟨_,.inl (.of (s3 _ _ dl)),fun qw H4 s4 FC=>⟨_,_,.inr (((s2.trans s3).trans s4).tup hp),rfl,by decide,fun pw H5 n5 s5 FE=>?_⟩⟩;exact k pw qw H5 (((s2.trans s3).trans s4).trans s5) (s5 _ _ FC) FE
theorem Fq (g:G K mg):g.kn.Ok P w base 7 (sp_read K):=by
 refine g.kn.F.ok cR (fun vs H Q E h=>?_) (fun FF A Fn s H vs Q E hr h=>?_)
 ·obtain⟨x,t,rfl,_⟩:=h;rfl
 ·obtain⟨x,t,rfl,hl,ad,wf,hw,k⟩:=h;refine⟨_,(aC (aJ (ak (aR (aP bM rfl g.bE bK (a8 (pv 0) (a8 (bG (v:=.ty "str") rfl g.cC cH rfl) a9)))))
    (aB bN) aK)
   (aC (sx 1 cR.nd (vG g.sX (EC g) (hr.mono (by decide)) rfl g.sW g.sF .nil pass0 (a8 (pv 0) a9)))
   (aC (sx 2 cR.nd (aF g.kS (F6 g) hr rfl (a8 (pv 1) a9)))
   (aC (sx 3 cR.nd (aF g.ki (Fl g) hr rfl (a8 (pv 1) a9)))
   (ae (sx 4 cR.nd (b8 (ptm bL (pv 3) aS) aS (aF g.kK (EY g) hr rfl (a8 (pv 1) a9))))
   (ae (sx 5 cR.nd (aF g.ka (Ff g) hr rfl (a8 (pv 1) (a8 (ck (pcm bB (pv 2) aH) (ao (pcm mN (pv 3) aS))) a9))))
   (aC (sx 6 cR.nd (aF g.kj (Fm g) hr rfl (a8 (pv 1) a9)))
   (aC (sx 7 cR.nd (aF g.kc (Fg g) hr rfl (a8 (pv 1) a9)))
   (aC (aJ (ak (aR (cV (pv 1) g.aW g.ky (tp g) (hr.mono (by decide)) g.kr .nil pass0)))
    (aB bN) aK)
   (aB (aE (al (a8 (pv 2) (a8 (pv 3) (a8 (pv 4) (a8 (pv 5) (a8 (pv 6) (a8 (pv 7) a9)))))))))))))))))),?_⟩
  obtain⟨hT,dT,wT,qT,mT,et,es,hH,hD,hS,hQ,hM⟩:=hw;walk_at "rd";intro p dx hp FB FE;have Fr:mT=[]∨∃y,mT=35::y:=by
   cases hm:x.mark with
   |none=>rw[hm] at hM;exact .inl hM
   |some s=>rw[hm] at hM;obtain⟨v,e,_⟩:=hM;exact .inr ⟨v,e⟩
  have BT:qT++mT=[]∨(∃y,qT++mT=35::y)∨∃y,qT++mT=63::y:=by
   cases hq:x.quest with
   |none=>
    rw[hq] at hQ;have hQ:qT=[]:=hQ;rw[hQ];rcases Fr with e|⟨y,e⟩
    ·exact .inl e
    ·exact .inr (.inl ⟨y,e⟩)
   |some ps=>
    rw[hq] at hQ;cases ps with
    |nil=>have hQ:qT=[63]:=hQ;exact .inr (.inr ⟨mT,by rw[hQ];rfl⟩)
    |cons a ps=>obtain⟨n,o⟩:=a;obtain⟨a,v,r,e,_⟩:=hQ;exact .inr (.inr ⟨_,by rw[e];rfl⟩)
  have FA:SameBut p H (upd (upd H dx (.own p)) p (.ins g.aV dx [])):=fun b o n e=>by rw[aN n,aN (aY e FB)];exact e
  refine⟨p,dx,t,rfl,aL,fun H1 s1 c1=>⟨rfl,?_⟩⟩;have FC:=FA.trans s1;have tl:∀{a b:List Nat},t=a++b->a.length≤t.length∧t.drop a.length=b:=fun {a b} e=>by rw[e,drop_left,length_append];exact⟨by lia,rfl⟩
  refine⟨p,t,rfl,c1,hl,fun H2 s2 c2=>?_⟩;rw[es];have eP:schP t=(schT x.scheme).length:=by unfold schP;rw[es]
  rw[eP] at c2;obtain⟨i2,d2⟩:=tl et;have mt:x.house≠none->x.rooted=true:=fun z=>wf.roo (.inr z);refine⟨p,t,hT,_,_,x.house,rfl,c2,i2,by lia,ad,d2,hH,?_,?_,fun H3 s3 c3=>?_⟩
  ·intro hn;rw[mt hn];refine fun c hc=>?_;cases hdo:x.door with
   |none=>rw[hdo] at hD;have hD:dT=[]:=hD;rw[hD] at hc;cases hc;decide
   |some n=>rw[hdo] at hD;obtain⟨ds,rfl,_⟩:=hD;cases hc;decide
  ·intro hn;cases hdo:x.door with
   |some n=>exact absurd hn (wf.doo n hdo).2
   |none=>
    rw[hdo] at hD;have hD:dT=[]:=hD;rw[hD,nil_append];have hr:(qT++mT).head?≠some 47:=fun z=>by rcases BT with e|⟨y,e⟩|⟨y,e⟩ <;> rw[e] at z <;> cases z
    have Cl:=o8 hS hr;cases hrt':x.rooted with
    |false=>
     intro z;simp only[Bool.false_eq_true,if_false,nil_append] at z;cases hh:wT++(qT++mT) with
     |nil=>rw[hh] at z;cases z
     |cons c r=>rw[hh] at z Cl;exact Cl (by injection z with z1 z2;rw[z1];rfl)
    |true=>
     intro z;simp only[if_true,cons_append,nil_append] at z;cases hh:wT++(qT++mT) with
     |nil=>rw[hh] at z;cases z
     |cons c r=>rw[hh] at z Cl;refine Cl ?_;injection z with z1 z2;injection z2 with z2 z3;rw[z2];rfl
  have Fz:=(FC.trans s2).trans s3;obtain⟨i3,d3⟩:=tl (a:=schT x.scheme++hT) (b:=dT++((if x.rooted then [47] else [])++(wT++(qT++mT)))) (by rw[et];simp);rw[length_append] at i3 d3;refine⟨fun σ H4=>SameBut p H H4∧Cur H4 g.aV p t ((schT x.scheme++(hT++dT)).length)∧σ=[some (.str ⟨t.toArray⟩),some (.ref p),some (.str ⟨x.scheme.toArray⟩),some (otV x.house),some (itV x.door),none,none,none],?_,?_⟩
  ·cases hho:x.house with
   |none=>
    rw[if_pos (show otV none=V.non from rfl)];cases hdo:x.door with
    |some n=>exact absurd hho (wf.doo n hdo).2
    |none=>rw[hdo] at hD;have hD:dT=[]:=hD;refine⟨Fz,?_,rfl⟩;rw[hD,append_nil,length_append];exact c3
   |some l=>
    rw[if_neg (by simp[otV])];refine⟨p,t,dT,_,_,x.door,rfl,c3,i3,by lia,ad,d3,hD,?_,?_,fun H4 s4 c4=>⟨Fz.trans s4,?_,rfl⟩⟩
    ·rw[mt (by rw[hho];simp)];intro c hc;cases hc;decide
    ·intro _;rw[mt (by rw[hho];simp)];simp
    ·rw[length_append,length_append,<- Nat.add_assoc];exact c4
  rintro σ H4 ⟨Fy,c4,rfl⟩;obtain⟨i4,d4⟩:=tl (a:=schT x.scheme++(hT++dT)) (b:=(if x.rooted then [47] else [])++(wT++(qT++mT))) (by rw[et];simp);walk_at "rd";have ld:∀dl:Bool,(dl=true->x.rooted=true)->∀(Q':VK),(∀u H5,SameBut p H H5->Cur H5 g.aV p t (t.length - (qT++mT).length)->IsT H5 x.way u->Q' u H5)->sp_taken_way K g.aV [V.ref p,V.bl dl] H4 Q' E0:=fun dl hm Q' hk=>by
   refine⟨p,t,wT,qT++mT,_,dl,x.rooted,x.steps,x.ends,rfl,c4,i4,by lia,ad,d4,hS,wf.end_,hm,?_,?_,fun u H5 s5 c5 hu=>hk u H5 (Fy.trans s5) c5 hu⟩
   ·rcases BT with e|⟨y,e⟩|⟨y,e⟩ <;> rw[e]
    ·exact jK
    ·exact ca ⟨by decide,by decide +kernel,by decide⟩
    ·exact ca ⟨by decide,by decide +kernel,by decide⟩
   ·rcases BT with e|⟨y,e⟩|⟨y,e⟩ <;> rw[e] <;> simp
  refine⟨fun σ H5=>∃u,SameBut p H H5∧Cur H5 g.aV p t (t.length - (qT++mT).length)∧IsT H5 x.way u∧σ=[some (.str ⟨t.toArray⟩),some (.ref p),some (.str ⟨x.scheme.toArray⟩),some (otV x.house),some (itV x.door),some u,none,none],?_,?_⟩
  ·refine ite2 (fun z=>?_) (fun z=>?_)
   ·exact ld true (fun _=>wf.roo (.inl fun e=>z (by rw[e]))) _ (fun u H5 sb c hu=>⟨u,sb,c,hu,rfl⟩)
   ·refine ld _ (fun e=>mt fun z'=>?_) _ (fun u H5 sb c hu=>⟨u,sb,c,hu,rfl⟩);rw[z'] at e;exact absurd e (by simp[otV])
  rintro σ H5 ⟨u,Fx,c5,hu,rfl⟩;have FD:t.length - (qT++mT).length+(qT++mT).length=t.length:=by have:=congrArg List.length et;simp only[length_append] at this ⊢;lia
  obtain⟨i5,d5⟩:=tl (a:=schT x.scheme++(hT++(dT++((if x.rooted then [47] else [])++wT)))) (b:=qT++mT) (by rw[et];simp);have e5:(schT x.scheme++(hT++(dT++((if x.rooted then [47] else [])++wT)))).length=t.length - (qT++mT).length:=by have:=congrArg List.length et;simp only[length_append] at this ⊢;lia
  rw[e5] at i5 d5;walk_at "rd";refine⟨p,t,qT,mT,_,x.quest,rfl,c5,i5,by lia,ad,d5,hQ,Fr,fun uq H6 s6 c6 hq=>?_⟩;have e6:t.length - mT.length≤t.length:=by lia
  have d6:t.drop (t.length - mT.length)=mT:=by
   obtain⟨_,z⟩:=tl (a:=schT x.scheme++(hT++(dT++((if x.rooted then [47] else [])++(wT++qT))))) (b:=mT) (by rw[et];simp);have e7:(schT x.scheme++(hT++(dT++((if x.rooted then [47] else [])++(wT++qT))))).length=t.length - mT.length:=by have:=congrArg List.length et;simp only[length_append] at this ⊢;lia
   rw[e7] at z;exact z
  refine⟨p,t,mT,_,x.mark,rfl,c6,e6,by lia,ad,d6,hM,fun H7 s7 c7=>?_⟩;refine af c7 ⟨p,t,_,rfl,c7,by lia,_,rfl,?_⟩;rw[decide_eq_true rfl,if_neg (by decide)];refine⟨by decide,fun pr H8 _ s8 h8=>k _ H8 (((((Fx.trans s6).trans s7).same hp).trans s8)) ?_⟩;exact adT h8 ((((hu.mono (c5.toT s6)).mono (c6.toT s7))).mono s8.toT) ((hq.mono (c6.toT s7)).mono s8.toT)
theorem Fs (g:G K mg):g.ko.Ok P w base 8 (sp_made K):=by
 refine g.ko.F.ok Es (fun vs H Q E h=>?_) (fun Fr A ad s H vs Q E hr h=>?_)
 ·obtain⟨l,lv,T,ws,n,wz,ys,t,ss,rfl,_⟩:=h;rfl
 ·obtain⟨l,lv,T,ws,n,wz,ys,t,ss,rfl,hl,hT,Cl,Fn,hV,ld,dl,ht,mt,k⟩:=h;refine⟨_,(aB (aE (aF g.km (Fp g) hr rfl (a8 (aF g.jt (EB g) hr rfl (a8 (pv 0) (a8 (pv 1) a9))) (a8 (pv 2) a9))))),?_⟩;walk_at "rd";refine⟨l,T,ws,n,t,rfl,hl,hT,ht,fun p H1 s1 BT=>?_⟩;obtain⟨q,xs,hp,hq,hx⟩:=BT;have ot:=Cl t (List.mem_of_find?_eq_some ht);have o90:=ot.1;exact⟨t.2.1,xs,p,q,lv,t.2.2,wz,ys,ss,rfl,.of hp,.of hq,hx.all,by lia,(fun c hc=>by have:=(ot.2 c hc).1.ends;exact⟨by lia,by lia⟩),s1 _ _ Fn,hV.mono s1,ld,dl,mt,fun pw qw H2 s2 h1 h2=>k pw qw H2 (s1.trans s2) h1 h2⟩
theorem uF (g:G K mg):FnOk P w K mg base CX0 9 g.iE g.eV ["table","base","name","values","question","mark"] (sp_made_address K):=by
 refine g.iF.ok Et (fun vs H Q E h=>?_) (fun Fr A ad s H vs Q E hr h=>?_)
 ·obtain⟨l,lv,T,ws,n,wz,ys,x,vb,vq,vm,t,ss,rfl,_⟩:=h;rfl
 ·obtain⟨l,lv,T,ws,n,wz,ys,x,vb,vq,vm,t,ss,rfl,hb,hl,hT,Cl,Fn,hV,mt,ld,h0,ht,BT,k⟩:=h;refine⟨_,(aC (aJ (ak (aR (aF g.gh (tm g) hr rfl (a8 (pv 1) a9))))
    (aB bN) aK)
   (aB (aE (aD (aQ (K:=K)) (ay bi (pv 1) b9 (au (aM (v:=sA) rfl g.l8 ⟨_,rfl⟩))) (al (a8 (aF g.ko (Fs g) hr rfl (a8 (pv 0) (a8 (pv 2) (a8 (pv 3) a9)))) (a8 (pv 4) (a8 (pv 5) a9)))))))),?_⟩
  walk_at "rd";obtain⟨pb,wb,qb,rfl,dl,_,_⟩:=nZ hb;refine⟨pb,x.scheme,_,rfl,.of dl,_,rfl,?_⟩;rw[decide_eq_false h0];refine ite2 (fun z=>by cases z) (fun _=>?_);walk_at "rd";refine⟨_,dl,fun p1 H1 s1 h1=>?_⟩;rw[show (some (3:Int))=some ((3:Nat):Int) from rfl,jY] at h1;refine⟨l,lv,T,ws,n,wz,ys,t,ss,rfl,s1 _ _ hl,hT.mono s1.toT,Cl,s1 _ _ Fn,hV.mono s1,mt,ld,ht,BT,fun pw qw H2 s2 h2 h3=>⟨by decide,fun p3 H3 n3 s3 h4=>?_⟩⟩;refine .inr ⟨_,_,(s2.trans s3) _ _ h1,h4,(show 3+3≤sizeLine by decide),fun p5 H5 s5 h5=>?_⟩;exact k p5 pw qw H5 (((s1.trans s2).trans s3).trans s5) ((s3.trans s5) _ _ h2) ((s3.trans s5) _ _ h3) h5
theorem uG (g:G K mg):g.gr.Ok P w base 10 (sp__law_same K):=by
 refine g.gr.F.ok tf (fun vs H Q E h=>?_) (fun FW A FC s H vs Q E hr h=>?_)
 ·obtain⟨l,lv,t,ws,ys,bs,x,vb,vq,qs,mk,rfl,_⟩:=h;rfl
 ·obtain⟨l,lv,t,ws,ys,bs,x,vb,vq,qs,mk,rfl,hl,hT,FG,ad,FT,FP,FO,FI,FF,hx,FK,FH,hB,hG,FJ,FE,Cl,Fr,k⟩:=h;refine⟨_,(ae (sx 5 tf.nd (bI (uF g) (hr.mono (by decide)) rfl g.ku g.iF.kp g.sU .nil pass0 (a8 (pv 0) (a8 (pv 1) (a8 (px K (px K (pv 0) aA) aA) (a8 (A5 (K:=K) rfl (pv 2) b9 b9 (au (cT cU aA))) (a8 (pv 3) (a8 (pv 4) a9))))))))
   (ae (aJ (PW.pt (am (ptm (bx hr.units) (aF g.kn (Fq g) hr rfl (a8 (aF g.kU (F9 g) hr rfl (a8 (pv 5) a9)) a9)) (pv 5)) (am (ptm (bx hr.units) (ay bi (pv 5) b9 (au aA)) (ay bi (pv 1) b9 (au aA))) (ax (ptm (bx hr.units) (ay bi (pv 5) (au aA) b9) (al (a8 (pv 3) (a8 (pv 4) a9))))))))
    (aB (aE aS)) aK)
   (aC (aJ (ptm (bx hr.units) (aF g.kh (Fk g) hr rfl (a8 (pv 0) (a8 (px K (pv 5) aA) a9))) (al (a8 (px K (px K (pv 0) aA) aA) (a8 (pv 2) a9))))
    (aB (aE aS)) aK)
   (aB (aE (pv 5)))))),?_⟩
  walk_at "rd";cases hT with
  |cons hr0 hT0=>
  cases hT0;obtain⟨a0,p0,rfl,Fx,FM⟩:=hr0;have hT:TbV H [t] [.ref a0]:=.cons ⟨a0,p0,rfl,Fx,FM⟩ .nil;obtain⟨pb,wb,qb,rfl,FN,_,_⟩:=nZ FF;have FV:=hB.length;rw[length_map] at FV;have hgl:=d7 t.2.1;have FU:bs.length≤5:=by have:=congrArg List.length hG.names;rw[length_map] at this;lia
  obtain⟨y,hy⟩:∃y,y=madeA x (stpsM t.2.1 bs) t.2.2 qs mk:=⟨_,rfl⟩;have gA:=jb hG ad.1 ad.2;obtain⟨FS,FA⟩:=pN hG ad.1 FJ;have Fz:∀s∈stpsM t.2.1 bs,StepOk s:=fun s hs=>⟨length_pos_iff.mpr (gA.sg s hs).1.1,(gA.sg s hs).1.2⟩;have ld:stpsM t.2.1 bs=[]->t.2.2=true:=fun z=>by have:=gA.le;rw[z,length_nil] at this;lia
  have dl:y.Wf:=by rw[hy];exact pZ hx.wf Fz ld Cl Fr
  have Fy:y.Sz:=by rw[hy];exact Dd hx.wf Fz ld Cl Fr FA (by lia)
  refine⟨fun σ H1=>Same H H1∧∃p pw qw:Addr,σ=[some (.ref l),some (.ref pb),some (.ref lv),some vq,some (otV mk),some (.ref p)]∧H1 qw=some (.tup ((stpsM t.2.1 bs).map tV))∧H1 pw=some (.tup [.bl true,.ref qw,.bl t.2.2])∧H1 p=some (.tup [tV x.scheme,otV x.house,itV x.door,.ref pw,vq,otV mk]),?_,?_⟩
  ·refine⟨_,_,.inl (.of hl),aG (j:=0) rfl,az.mpr ⟨_,_,.inr (.of Fx),aG (j:=0) rfl,lv,ys,rfl,.of FH,by decide,?_⟩⟩;rw[D7 (by lia)];refine⟨aI (by rw[List.length_reverse];lia),fun pr nr=>?_⟩;have s1:Same H (upd H pr (.lst ys.reverse)):=av nr;refine⟨l,pr,[t],_,t.1,bs.reverse.map fun b=>(b.1,vlD b.2),_,x,_,_,_,t,stpsM t.2.1 bs,rfl,FF.mono s1.toT,s1 _ _ hl,hT.mono s1.toT,fun u hu=>(by rw[mem_singleton.mp hu];exact FG),aL,by rw[List.map_reverse];exact (hB.mono s1).rev,by rw[length_map,List.length_reverse];lia,fun w hw=>?_,FK,by simp,D8 hG ad.1 ad.2 FP,fun p pw qw H1 s2 h1 h2 h3=>⟨s1.trans s2,p,pw,qw,rfl,h1,h2,h3⟩⟩;obtain⟨b,hb,rfl⟩:=mem_map.mp hw;exact (hG.vl b (mem_reverse.mp hb)).small
  rintro σ H1 ⟨s1,p,pw,qw,rfl,BT,Fn,hp⟩;have FD:∀{H':Hp},Same H1 H'->IsT H' y.data (.ref p):=fun {H'} s'=>by rw[hy];exact adT (x:=madeA x (stpsM t.2.1 bs) t.2.2 qs mk) (s' _ _ hp) (.tup (s' _ _ Fn) (.cons (.bl _) (.cons (.tup (s' _ _ BT) (jF _)) (.cons (.bl _) .nil)))) (FE.mono (s1.trans s').toT)
  walk_at "rd";refine⟨fun σ H2=>Same H1 H2∧σ=[some (.ref l),some (.ref pb),some (.ref lv),some vq,some (otV mk),some (.ref p)],⟨y,_,rfl,(FD (Same.refl _)).k,dl,Fy,fun H2 s2=>⟨y,y.shw,rfl,Fy.all,B3 dl,dl,B5 dl,fun u H3 s3 hu=>⟨y.data,y.data,hu.is,(FD (s2.trans s3)).is,dl.shaped,dl.shaped,_,rfl,?_⟩⟩⟩,?_⟩
  ·rw[(Ad.eqv_iff y y).mpr rfl];have u3:=s2.trans s3;refine ite2 (fun z=>by cases z) (fun _=>⟨_,u3 _ _ hp,fun p4 H4 s4 e4=>⟨_,(s1.trans (u3.trans s4)) _ _ FN,fun p5 H5 s5 e5=>?_⟩⟩);rw[show (some (3:Int))=some ((3:Nat):Int) from rfl,jY] at e4 e5;have i3:∀{H':Hp}{q:Addr}{v w z:V},H' q=some (.tup ([tV x.scheme,otV x.house,itV x.door,v,w,z].take 3))->Is H' (.tuple [st x.scheme,oD x.house,iD x.door]) (.ref q):=fun e=>.tup e (.cons (.str _) (.cons (bY _).is (.cons (jA _).is .nil)));have l3:SeqAt.shaped (.tuple [st x.scheme,oD x.house,iD x.door])=true:=(LayAt.tup (n:=0) fun d hd=>by
    simp only[mem_cons,not_mem_nil,or_false] at hd;rcases hd with rfl|rfl|rfl
    ·exact .st fun c hc=>j8 (hx.sch.2.1 c hc)
    ·exact .oD fun a ha=>(hx.hou a ha).2.2
    ·exact .iD).shaped (by decide)
   have q3:PyData.eqv (.tuple [st x.scheme,oD x.house,iD x.door]) (.tuple [st x.scheme,oD x.house,iD x.door])=true:=eC fun d hd=>by
    simp only[mem_cons,not_mem_nil,or_false] at hd;rcases hd with rfl|rfl|rfl
    ·exact d8 _
    ·exact (cy _ _).mpr rfl
    ·exact (nK _ _).mpr rfl
   refine⟨_,_,i3 (s5 _ _ e4),i3 e5,l3,l3,_,rfl,?_⟩;rw[q3];refine ite2 (fun z=>by cases z) (fun _=>⟨_,(u3.trans (s4.trans s5)) _ _ hp,fun p6 H6 s6 e6=>⟨by decide,fun p7 H7 n7 s7 e7=>?_⟩⟩);rw[show (some (4:Int))=some ((4:Nat):Int) from rfl,eA] at e6;have u7:=u3.trans ((s4.trans s5).trans (s6.trans s7));have FL:=(FE.mono (s1.trans u7).toT).is;have l2:SeqAt.shaped (.tuple [qD qs,oD mk])=true:=(LayAt.tup (n:=2) fun d hd=>by
    simp only[mem_cons,not_mem_nil,or_false] at hd;rcases hd with rfl|rfl
    ·exact .qD fun ps e=>(Cl ps e).2
    ·exact (LayAt.oD fun a ha=>(Fr a ha).2).le (by decide)).shaped (by decide)
   have q2:PyData.eqv (.tuple [qD qs,oD mk]) (.tuple [qD qs,oD mk])=true:=eC fun d hd=>by
    simp only[mem_cons,not_mem_nil,or_false] at hd;rcases hd with rfl|rfl
    ·exact (jD _ _).mpr rfl
    ·exact (cy _ _).mpr rfl
   refine⟨_,_,.tup (s7 _ _ e6) (.cons FL (.cons (bY _).is .nil)),.tup e7 (.cons FL (.cons (bY _).is .nil)),l2,l2,_,rfl,?_⟩;rw[q2];exact ite2 (fun z=>by cases z) (fun _=>⟨u7,rfl⟩)
  rintro σ H2 ⟨s2,rfl⟩;walk_at "rd";have mt:=s1.trans s2;refine⟨_,_,.inr (.of (s2 _ _ hp)),aG (j:=3) rfl,l,pw,qw,t,_,true,t.2.2,stpsM t.2.1 bs,rfl,mt _ _ hl,hT.mono mt.toT,FG,s2 _ _ Fn,s2 _ _ BT,by lia,fun s hs=>Nat.le_trans (FA s hs) (by decide),pM hG ad.1 ad.2 t.2.2,fun p3 l3 FR H3 n3 s3 h3 h4 h5=>?_⟩;rw[gA.bnd] at h5;refine⟨_,_,.inl (.of ((mt.trans s3) _ _ hl)),aG (j:=0) rfl,az.mpr ⟨_,_,.inr (.of ((mt.trans s3) _ _ Fx)),aG (j:=0) rfl,by decide,fun p4 H4 n4 s4 h6=>?_⟩⟩;have FB:=mt.trans (s3.trans s4);have FQ:∀b∈bs,∀c∈b.1,isSg c=true:=fun b hb=>FO b.1 (by rw[<- hG.names];exact mem_map_of_mem hb);have lb:SeqAt.shaped (.tuple [st t.1,bndD bs])=true:=(LayAt.tup (n:=3) fun d hd=>by
   simp only[mem_cons,not_mem_nil,or_false] at hd;rcases hd with rfl|rfl
   ·exact (LayAt.st FI).le (by decide)
   ·exact Cj FQ hG.vl).shaped (by decide)
  have qb:PyData.eqv (.tuple [st t.1,bndD bs]) (.tuple [st t.1,bndD bs])=true:=eC fun d hd=>by
   simp only[mem_cons,not_mem_nil,or_false] at hd;rcases hd with rfl|rfl
   ·exact d8 _
   ·exact Ck _
  refine⟨_,_,.tup (s4 _ _ h3) (.cons (.str _) (.cons (.lst (s4 _ _ h4) (h5.mono s4).vls.isAll) .nil)),.tup h6 (.cons (.str _) (.cons (.lst (FB _ _ FH) (hB.mono FB).isAll) .nil)),lb,lb,_,rfl,?_⟩;show if (!PyData.eqv (.tuple [st t.1,bndD bs]) (.tuple [st t.1,bndD bs]))=true then _ else _;rw[qb];exact ite2 (fun z=>by cases z) (fun _=>k p H4 FB ⟨_,_,_,pw,qw,((s2.trans s3).trans s4) _ _ hp,((s2.trans s3).trans s4) _ _ Fn,((s2.trans s3).trans s4) _ _ BT⟩)
theorem gvOf {nm:List (List Nat)}{cs:List Pc}{bs:List (List Nat×Vl)}{r:List Nat}(h4:nm[4]?=some r)(h:PtOf nm cs)(hb:bs.map (·.1)=gapsM cs)(hv:∀b∈bs,VlOf r b.1 b.2):GvA cs bs∧∀b∈bs,SmV b.2:=by
 have vt:∀{l:List Nat},VtOk l->SgT l∧l.length≤400∧isDot l=false:=fun h=>⟨⟨h.1,h.2.2.1⟩,Nat.le_trans h.2.1 (by decide),h.2.2.2⟩;refine⟨.whole (pj (fun c hc=>by simpa using (mem_filter.mp hc).2) hb fun c hc b ad e=>?_),fun b ad=>?_⟩
 ·obtain⟨hc,hs⟩:=mem_filter.mp hc;obtain⟨_,_,h1,h2⟩:=h.2.2.2 c hc (by simpa using hs);rcases hv b ad with⟨g1,x,y,g2,g3,g4⟩|⟨g1,x,g2,g3⟩
  ·have hr:=h1.mpr (by rw[h4,<- e,g1]);cases c with
   |rest n=>
    refine⟨_,g2,by simp,by simp,fun s hs=>?_⟩;simp only[mem_cons,not_mem_nil,or_false] at hs;rcases hs with rfl|rfl
    ·exact vt g3
    ·exact vt g4
   |_=>cases hr
  ·have hr:c.isRest=false:=by
    cases z:c.isRest with
    |false=>rfl
    |true=>exact absurd (e.trans (Option.some.inj (h4.symm.trans (h1.mp z))).symm) g1
   rcases h2 hr with⟨p,q,e'⟩|e'
   ·rw[e'];exact⟨x,g2,g3.1,g3.2.2.1,Nat.le_trans g3.2.1 (by decide),Dg g3.1 g3.2.2.2⟩
   ·rw[e'];exact⟨x,g2,vt g3⟩
 ·rcases hv b ad with⟨_,x,y,g2,g3,g4⟩|⟨_,x,g2,g3⟩
  ·rw[g2];refine⟨by simp,fun s hs=>?_⟩;simp only[mem_cons,not_mem_nil,or_false] at hs;rcases hs with rfl|rfl
   ·exact Nat.le_trans g3.2.1 (by decide)
   ·exact Nat.le_trans g4.2.1 (by decide)
  ·rw[g2];exact Nat.le_trans g3.2.1 (by decide)
theorem Ft (g:G K mg):g.f_law.Ok P w base 11 (sp_law K):=by
 refine g.f_law.F.ok bF (fun vs H Q E h=>?_) (fun GR A FW s H vs Q E hr h=>?_)
 ·obtain⟨a,ns,rfl,_⟩:=h;rfl
 ·obtain⟨a,ns,rfl,hS,hn,k⟩:=h;refine⟨_,(ae (sx 1 bF.nd (aF g.ju (ED g) hr rfl (a8 (aF g.bQ (be g) hr rfl (a8 (pv 0) (a8 aA a9))) (a8 aA a9))))
   (ae (sx 2 bF.nd (aF g.kM (F0 g) hr rfl (a8 (aF g.k8 (EL g) hr rfl (a8 (pv 0) (a8 aA (a8 aA a9)))) (a8 aH (a8 bA a9)))))
   (ae (uQ (aF g.kT (F8 g) hr rfl (a8 (pv 0) (a8 aA (a8 (pv 1) a9)))) (dq (n:=2) (K:=K) rfl rfl (bS (pgn 3 bF.nd) (bS (pgn 4 bF.nd) cm))))
   (ae (sx 5 bF.nd (aw (a8 (al (a8 (px K (pv 1) aA) (a8 (aF g.kl (Fo g) hr rfl (a8 (pv 3) a9)) a9))) a9)))
   (ae (sx 6 bF.nd (aF g.kO (F2 g) hr rfl (a8 (pv 0) (a8 aA (a8 (pv 4) (a8 (px K (pv 1) aA) a9))))))
   (ae (sx 7 bF.nd (aF g.gn (uB g) hr rfl (a8 (aF g.bQ (be g) hr rfl (a8 (pv 0) (a8 aA a9))) a9)))
   (ae (sx 8 bF.nd (px K (aw (a8 aS (a8 (aF g.ba (cE g) hr rfl (a8 (aF g.bQ (be g) hr rfl (a8 (pv 0) (a8 aA a9))) (a8 aA a9))) a9))) (aD aT (aF g.bQ (be g) hr rfl (a8 (pv 0) (a8 aA a9))) aA)))
   (ae (sx 9 bF.nd (aF g.gr (uG g) hr rfl (a8 (pv 5) (a8 (pv 2) (a8 (pv 6) (a8 (pv 7) (a8 (pv 8) a9)))))))
   (ae (aJ (PW.pt (am (ptm bL (pv 9) aS) (ax (ptm (bx hr.units) (ay bi (bI (dvs:=[.non,.non]) (uF g) (hr.mono (by decide)) rfl g.ku g.iF.kp g.sS (.cons rfl (.cons rfl .nil)) pass0 (a8 (pv 5) (a8 (pv 2) (a8 (px K (pv 1) aA) (a8 (pv 6) a9))))) (au aA) b9) (al (a8 aS (a8 aS a9)))))))
    (aB (aE bA)) aK)
   (aC (aJ (ptm (mU hr.units) (pv 4) (aw a9))
    (aB (aE bA)) aK)
   (ae (sx 10 bF.nd (aD aT (aF g.bQ (be g) hr rfl (a8 (pv 0) (a8 aA a9))) (aP (ac (K:=K) rfl) rfl g.aZ PySem.boot_len (a8 (pv 4) a9))))
   (aC (sx 11 bF.nd (aF g.dL (ia g) hr rfl (a8 (aF g.bQ (be g) hr rfl (a8 (pv 0) (a8 aA a9))) a9)))
   (ae (aJ (aR (aP bM rfl g.bE bK (a8 (px K (px K (pv 6) (pv 10)) aA) (a8 (bG (v:=.ty "list") rfl g.iN ir rfl) a9))))
    (aB (sx 11 bF.nd (aw (a8 (pv 11) (a8 (px K (px K (px K (pv 6) (pv 10)) aA) aA) a9))))) aK)
   (ae (sx 12 bF.nd (aD (aQ (K:=K)) (aD (aQ (K:=K)) (ay (fw (K:=K) rfl) (pv 6) b9 (au (pv 10))) (aw (a8 (al (a8 (px K (pv 4) (pv 10)) (a8 (pv 11) a9))) a9))) (ay (fw (K:=K) rfl) (pv 6) (au (aD (aQ (K:=K)) (pv 10) aA)) b9)))
   (aC (sx 13 bF.nd (aF g.gr (uG g) hr rfl (a8 (pv 5) (a8 (pv 2) (a8 (pv 12) (a8 (pv 7) (a8 (pv 8) a9)))))))
   (aC (aJ (ptm bL (pv 13) aS)
    (aB (aE bA)) aK)
   (aB (aE (aj (pcm aO (aP (ac (K:=K) rfl) rfl g.aZ PySem.boot_len (a8 (aF g.jw (EF g) hr rfl (a8 (pv 9) (a8 (pv 13) a9))) a9)) (bD ff rfl g.cB cG (a8 (pcm (bx hr.units) (pv 11) (px K (px K (pv 6) (pv 10)) aA)) a9))) (ao (pcm (mU hr.units) (ay bi (pv 9) (au aA) b9) (ay bi (pv 13) (au aA) b9)))))))))))))))))))))),?_⟩
  have GE:Str.ofString "a.b"=⟨[97,46,98].toArray⟩:=by decide +kernel
  rw[GE];walk_at "rd";refine cutI (fun σ H1=>Same H H1∧∃(nm:List (List Nat)) (pn:Addr),σ=[some (.ref a),some (.ref pn),none,none,none,none,none,none,none,none,none,none,none,none]∧H1 pn=some (.lst (nm.map tV))∧nm.length=6∧(∀n∈nm,NmOk n)∧nm.Nodup) ⟨a,ns,0,rfl,hS,_,6,rfl,by decide,fun nm pn H1 h1 h2 h3 s1 h4=>⟨s1,nm,pn,rfl,h4,h1,fun n hn=>⟨⟨(h2 n hn).1,(h2 n hn).2.1⟩,(h2 n hn).2.2⟩,h3⟩⟩ ?_;rintro σ H1 ⟨s1,nm,pn,rfl,FA,G8,Gf,GA⟩;walk_at "rd";refine cutI (fun σ H2=>Same H1 H2∧∃(x:Ad) (vb:V),σ=[some (.ref a),some (.ref pn),some vb,none,none,none,none,none,none,none,none,none,none,none]∧x.Ok∧x.scheme≠[]∧IsT H2 x.data vb) ⟨a,ns,1,7,rfl,s1.seq hS,by decide,fun is pc H2 h1 s2 h2=>⟨pc,is,[97,46,98],rfl,h2,h1,by decide,by decide,by decide,fun x u H3 h3 h4 s3 h5=>⟨s2.trans s3,x,u,rfl,h3,h4,h5⟩⟩⟩ ?_;rintro σ H2 ⟨s2,x,vb,rfl,hx,Gc,FY⟩;have u2:=s1.trans s2;walk_at "rd";refine cutI (fun σ H3=>Same H2 H3∧∃(cs:List Pc) (e:Bool) (ws:List (List Nat)) (lg:Addr),σ=[some (.ref a),some (.ref pn),some vb,some (tV (slT true ws e)),some (.ref lg),none,none,none,none,none,none,none,none,none]∧PtOf nm cs∧PcWs cs ws∧(∀w∈ws,w.length≤100)∧H3 lg=some (.lst ((gapsM cs).map tV))) ⟨a,pn,ns,8,nm,rfl,u2.seq hS,s2 _ _ FA,G8,Gf,GA,fun cs e ws p lg H3 h1 h2 h3 s3 h4 h5=>?_⟩ ?_
  ·walk_at "rd";exact⟨p,_,rfl,.of h5,rfl,_,_,rfl,_,_,rfl,rfl,s3,cs,e,ws,lg,⟨rfl,rfl⟩,h1,h2,h3,h4⟩
  rintro σ H3 ⟨s3,cs,e,ws,lg,rfl,FI,Gy,Gw,Gi⟩;have u3:=u2.trans s3;obtain⟨BT,FM,FL,Gz⟩:=id FI;have G7:cs=[]->e=true:=fun z=>by rw[z] at FM;exact absurd FM.1 (by decide)
  have FJ:∀c∈cs,c.isStep=false->NmOk c.name:=fun c hc hs=>(Gz c hc hs).1;have Ge:PcsOk cs:=⟨by lia,fun c hc=>⟨BT.1 c hc,Cs (BT.1 c hc) (by
   cases hs:c.isStep with
   |false=>exact eB (FJ c hc hs).2
   |true=>cases c with
    |step w=>exact fun x hx=>by cases hx
    |_=>cases hs)⟩⟩
  have FR:∀j (h:j < 6),(nm.map tV)[j]?=some (tV nm[j]):=fun j h=>by rw[List.getElem?_map,List.getElem?_eq_getElem (by lia)];rfl
  have h4:nm[4]?=some nm[4]:=List.getElem?_eq_getElem (by lia);have Gp:∀n∈nm,∀c∈n,isSg c=true:=fun n hn=>eB (Gf n hn).2;have Gj:∀n∈gapsM cs,∀c∈n,isSg c=true:=fun n hn=>by obtain⟨c,hc,rfl⟩:=mem_map.mp hn;obtain⟨hc,hs⟩:=mem_filter.mp hc;exact eB (FJ c hc (by simpa using hs)).2
  walk_at "rd";refine cutI (fun σ H4=>Same H3 H4∧∃(l:Addr) (vs:List V),σ=[some (.ref a),some (.ref pn),some vb,some (tV (slT true ws e)),some (.ref lg),some (.ref l),none,none,none,none,none,none,none,none]∧H4 l=some (.lst vs)∧TbV H4 [(nm[5],cs,e)] vs) ?_ ?_
  ·refine⟨_,_,.inl (.of ((s2.trans s3) _ _ FA)),aG (j:=5) (FR 5 (by decide)),cs,e,ws,rfl,Gy,fun w hw=>Nat.le_trans (Gw w hw) (by decide),⟨BT,FJ,FL,by lia,G7⟩,fun v H4 s4 hv=>⟨by decide,fun p5 H5 n5 s5 e5=>⟨by decide,fun p6 H6 n6 s6 e6=>?_⟩⟩⟩;obtain⟨p,rfl,hp⟩:=De (hv.mono (s5.trans s6).toT);exact⟨s4.trans (s5.trans s6),p6,_,rfl,e6,.cons ⟨p5,p,rfl,s6 _ _ e5,hp⟩ .nil⟩
  rintro σ H4 ⟨s4,l,vs,rfl,hl,hT⟩;have u4:=u3.trans s4;have hgl:=d7 cs;walk_at "rd";refine cutI (fun σ H5=>Same H4 H5∧∃(bs:List (List Nat×Vl)) (lv:Addr) (ys:List V),σ=[some (.ref a),some (.ref pn),some vb,some (tV (slT true ws e)),some (.ref lg),some (.ref l),some (.ref lv),none,none,none,none,none,none,none]∧bs.map (·.1)=gapsM cs∧(∀b∈bs,VlOf nm[4] b.1 b.2)∧H5 lv=some (.lst ys)∧BndV H5 lv bs ys) ⟨_,_,.inl (.of ((s2.trans (s3.trans s4)) _ _ FA)),aG (j:=4) (FR 4 (by decide)),a,lg,ns,14,gapsM cs,nm[4],rfl,u4.seq hS,s4 _ _ Gi,by lia,fun bs lv ys H5 h1 h2 _ s5 h5 h6=>⟨s5,bs,lv,ys,rfl,h1,h2,h5,h6⟩⟩ ?_;rintro σ H5 ⟨s5,bs,lv,ys,rfl,Fy,FO,GB,hB⟩;have u5:=u4.trans s5;obtain⟨hG,Gb⟩:=gvOf h4 FI Fy FO;walk_at "rd";refine cutI (fun σ H6=>Same H5 H6∧∃(qs:Option (List (List Nat×Option (List Nat)))) (vq:V),σ=[some (.ref a),some (.ref pn),some vb,some (tV (slT true ws e)),some (.ref lg),some (.ref l),some (.ref lv),some vq,none,none,none,none,none,none]∧QSm qs∧IsT H6 (qD qs) vq) ⟨a,ns,22,rfl,u5.seq hS,_,rfl,fun qs v H6 h1 s6 h2=>⟨s6,qs,v,rfl,h1,h2⟩⟩ ?_;rintro σ H6 ⟨s6,qs,vq,rfl,Gd,FX⟩;have u6:=u5.trans s6;walk_at "rd";refine cutI (fun σ H7=>Same H6 H7∧∃mk:Option (List Nat),σ=[some (.ref a),some (.ref pn),some vb,some (tV (slT true ws e)),some (.ref lg),some (.ref l),some (.ref lv),some vq,some (otV mk),none,none,none,none,none]∧MSm mk) ⟨a,ns,23,rfl,u6.seq hS,_,3,rfl,by decide,fun tx GO Gx=>⟨by decide,fun p7 H7 n7 s7 e7=>⟨a,ns,23,rfl,(u6.trans s7).seq hS,?_⟩⟩⟩ ?_
  ·obtain⟨m,hm,em⟩:∃m:Nat,m < 2∧ns.getD 23 0 % 2=(m:Int):=⟨(ns.getD 23 0 % 2).toNat,by lia,by lia⟩;walk_at "rd";rw[em];obtain⟨mk,hv,FB⟩:∃mk:Option (List Nat),atI [V.non,tV tx] (m:Int)=some (otV mk)∧MSm mk:=by
    match m,hm with
    |0,_=>exact⟨none,aG (j:=0) rfl,fun l z=>by cases z⟩
    |1,_=>exact⟨some tx,aG (j:=1) rfl,fun l z=>by cases z;exact⟨by lia,Gx⟩⟩
   exact⟨by decide,_,_,.inl (.of e7),hv,s7,mk,rfl,FB⟩
  rintro σ H7 ⟨s7,mk,rfl,FB⟩;have u7:=u6.trans s7;have w7:=(s5.trans s6).trans s7;have Cl:∀(lz:Addr) (zs:List V) (cz:List (List Nat×Vl)) (H':Hp) (Z:VK),Same H7 H'->H' lz=some (.lst zs)->VlsV H' (cz.map fun b=>(b.1,vlD b.2)) zs->GvA cs cz->(∀b∈cz,SmV b.2)->(∀(p:Addr) (H'':Hp),Same H' H''->AdW H'' p (stpsM cs cz) e vq (otV mk)->Z (.ref p) H'')->sp__law_same K [.ref l,vb,.ref lz,vq,otV mk] H' Z E0:=fun lz zs cz H' Z s' z1 z2 z3 z4 z5=>⟨l,lz,(nm[5],cs,e),vs,zs,cz,x,vb,vq,qs,mk,rfl,(w7.trans s') _ _ hl,hT.mono (w7.trans s').toT,Ge,BT,FM,FL,Gj,Gp _ (getElem_mem _),FY.mono ((s3.trans s4).trans (w7.trans s')).toT,hx,Gc,z1,z2,z3,z4,FX.mono (s7.trans s').toT,Gd,FB,z5⟩;have Gm:=hB.mono (s6.trans s7);have Fr:=(s6.trans s7) _ _ GB;walk_at "rd";refine cutI (fun σ H8=>Same H7 H8∧∃p1:Addr,σ=[some (.ref a),some (.ref pn),some vb,some (tV (slT true ws e)),some (.ref lg),some (.ref l),some (.ref lv),some vq,some (otV mk),some (.ref p1),none,none,none,none]∧AdW H8 p1 (stpsM cs bs) e vq (otV mk)) (Cl lv ys bs H7 _ (Same.refl _) Fr Gm.vls hG Gb fun p1 H8 s8 h8=>⟨s8,p1,rfl,h8⟩) ?_;rintro σ H8 ⟨s8,p1,rfl,G0⟩;have u8:=u7.trans s8;have w8:=w7.trans s8;walk_at "rd";refine cutI (fun σ H9=>Same H8 H9∧σ=[some (.ref a),some (.ref pn),some vb,some (tV (slT true ws e)),some (.ref lg),some (.ref l),some (.ref lv),some vq,some (otV mk),some (.ref p1),none,none,none,none]) ⟨_,_,.inl (.of (((s2.trans (s3.trans s4)).trans w8) _ _ FA)),aG (j:=5) (FR 5 (by decide)),l,lv,[(nm[5],cs,e)],vs,nm[5],bs.map fun b=>(b.1,vlD b.2),ys,x,vb,_,_,(nm[5],cs,e),_,rfl,FY.mono ((s3.trans s4).trans w8).toT,w8 _ _ hl,hT.mono w8.toT,(fun u hu=>by rw[mem_singleton.mp hu];exact Ge),s8 _ _ Fr,(Gm.mono s8).vls,?_,fun w hw=>?_,Gc,by simp,Dc hG BT.1 BT.2 FL,fun p pw qw H9 s9 _ _ h3=>nU.mpr ⟨_,h3,fun p9 H10 mt FD=>⟨by decide,fun GI H11 GL FU GG=>?_⟩⟩⟩ ?_
  ·have:=congrArg List.length Fy;rw[length_map] at this ⊢;lia
  ·obtain⟨b,hb,rfl⟩:=mem_map.mp hw;exact (hG.vl b hb).small
  ·rw[show (some (4:Int))=some ((4:Nat):Int) from rfl,eA] at FD;have lN:SeqAt.shaped (.tuple [.none,.none])=true:=by decide +kernel
   have qN:PyData.eqv (.tuple [.none,.none]) (.tuple [.none,.none])=true:=by decide +kernel
   refine⟨_,_,.tup (FU _ _ FD) (.cons .non (.cons .non .nil)),.tup GG (.cons .non (.cons .non .nil)),lN,lN,_,rfl,?_⟩;rw[qN];exact ite2 (fun z=>by cases z) (fun _=>⟨s9.trans (mt.trans FU),rfl⟩)
  rintro σ H9 ⟨s9,rfl⟩;have u9:=u8.trans s9;have w9:=w8.trans s9;have Fx:=(s4.trans w9) _ _ Gi;walk_at "rd";refine⟨by decide,fun GJ H10 GM mt FD=>⟨.list ((gapsM cs).map st),.list [],.lst (mt _ _ Fx) (gR _),.lst FD .nil,(layL (n:=0) fun d hd=>?_).shaped (by decide),by decide +kernel,?_⟩⟩
  ·obtain⟨n,hn,rfl⟩:=mem_map.mp hd;exact .st (Gj n hn)
  rw[Aa,List.isEmpty_map];refine⟨_,rfl,ite2 (fun _=>k _) (fun G9=>?_)⟩;have GP:0 < (gapsM cs).length:=length_pos_iff.mpr fun z=>G9 (by rw[z];rfl);have GQ:bs.length=(gapsM cs).length:=by rw[<- Fy,length_map]
  have Go:=u9.trans mt;obtain⟨j,hj,ej⟩:∃j:Nat,j < (gapsM cs).length∧ns.getD 24 0 % ((gapsM cs).length:Int)=(j:Int):=by have h1:=Int.emod_nonneg (ns.getD 24 0) (show ((gapsM cs).length:Int)≠0 by lia);have h2:=Int.emod_lt_of_pos (ns.getD 24 0) (show 0 < ((gapsM cs).length:Int) by lia);exact⟨(ns.getD 24 0 % ((gapsM cs).length:Int)).toNat,by lia,by lia⟩
  refine cutI (fun σ H11=>H11=H10∧σ=[some (.ref a),some (.ref pn),some vb,some (tV (slT true ws e)),some (.ref lg),some (.ref l),some (.ref lv),some vq,some (otV mk),some (.ref p1),some (.int (j:Int)),none,none,none]) ⟨a,ns,24,rfl,Go.seq hS,_,.inl (.of (mt _ _ Fx)),?_⟩ ?_
  ·rw[length_map];walk_at "rd";rw[ej];exact⟨by lia,rfl⟩
  rintro σ H11 ⟨rfl,rfl⟩;have FS:=s8.trans (s9.trans mt);have ad:=FS _ _ Fr;have FQ:=Gm.mono FS;have hyl:=hB.length;obtain⟨v,hv⟩:∃v,ys[j]?=some v:=⟨_,List.getElem?_eq_getElem (by lia)⟩;obtain⟨⟨n,y⟩,pv,wv,FC,rfl,FH,FF,_⟩:=FQ.get hv;have GN:=FO _ (mem_of_getElem? FC);have Gg:(gapsM cs)[j]?=some n:=by rw[<- Fy,List.getElem?_map,FC];rfl
  walk_at "rd";refine⟨a,ns,25,rfl,Go.seq hS,_,rfl,fun tx Ga=>?_⟩;refine cutI (fun σ H12=>Same H11 H12∧∃(y':Vl) (v':V),σ=[some (.ref a),some (.ref pn),some vb,some (tV (slT true ws e)),some (.ref lg),some (.ref l),some (.ref lv),some vq,some (otV mk),some (.ref p1),some (.int (j:Int)),some v',none,none]∧VlV H12 y' v'∧VlOf nm[4] n y'∧((∃a c,y=.txt a∧y'=.txt c)∨∃a b c,y=.lst [a,b]∧y'=.lst [c,b])) ⟨_,_,.inl (.of ad),aG hv,az.mpr ⟨_,_,.inr (.of FH),aG (j:=1) rfl,?_⟩⟩ ?_
  ·rcases GN with⟨g1,A,B,g2,g3,g4⟩|⟨g1,A,g2,g3⟩
   ·simp only at g2;subst g2;obtain⟨q,rfl,hq⟩:=FF;have kq:kindV (.ref q) H11=some "list" := by simp only[kindV,hq]
    exact⟨_,kq,ite2 (fun _=>⟨_,_,.inl (.of ad),aG hv,az.mpr ⟨_,_,.inr (.of FH),aG (j:=1) rfl,az.mpr ⟨_,_,.inl (.of hq),aG (j:=1) rfl,by decide,fun Gs H12 GK ld GF=>⟨ld,.lst [tx,B],_,rfl,⟨Gs,rfl,GF⟩,.inl ⟨g1,tx,B,rfl,Ga,g4⟩,.inr ⟨A,B,tx,rfl,rfl⟩⟩⟩⟩⟩) (fun z=>absurd (by decide) z)⟩
   ·simp only at g2;subst g2;cases FF;exact⟨_,L2.iy,ite2 (fun z=>absurd z (by decide)) (fun _=>⟨Same.refl _,.txt tx,_,rfl,rfl,.inr ⟨g1,tx,rfl,Ga⟩,.inl ⟨A,tx,rfl,rfl⟩⟩)⟩
  rintro σ H12 ⟨ld,y',v',rfl,FZ,Gv,FK⟩;walk_at "rd";have eS:bs.set j (n,y')=bs.take j++[(n,y')]++bs.drop (j+1):=by rw[List.set_eq_take_append_cons_drop,if_pos (by lia),append_assoc];rfl
  have Gh:=(mt.trans ld) _ _ Fx;have GH:=FS.trans ld;refine cutI (fun σ H13=>Same H12 H13∧∃(lo:Addr) (zs:List V),σ=[some (.ref a),some (.ref pn),some vb,some (tV (slT true ws e)),some (.ref lg),some (.ref l),some (.ref lv),some vq,some (otV mk),some (.ref p1),some (.int (j:Int)),some v',some (.ref lo),none]∧H13 lo=some (.lst zs)∧VlsV H13 ((bs.set j (n,y')).map fun b=>(b.1,vlD b.2)) zs) ⟨_,.of (ld _ _ ad),fun q1 G1 _ r1 f1=>⟨_,_,.inl (.of (r1 _ _ Gh)),aG (by rw[List.getElem?_map,Gg];rfl),by decide,fun q2 G2 _ r2 f2=>⟨by decide,fun q3 G3 _ r3 f3=>?_⟩⟩⟩ ?_
  ·rw[jY] at f1;have Gr:=(r1.trans r2).trans r3;refine .inl ⟨_,_,(r2.trans r3) _ _ f1,f3,aI (by rw[length_take,length_singleton];lia),fun q4 G4 _ r4 f4=>⟨_,.of ((ld.trans (Gr.trans r4)) _ _ ad),fun q5 G5 _ r5 f5=>?_⟩⟩;rw[show (some ((j:Int)+1))=some ((j+1:Nat):Int) from rfl,eA] at f5;refine .inl ⟨_,_,r5 _ _ f4,f5,aI (by rw[length_append,length_take,length_singleton,length_drop];lia),fun q6 G6 _ r6 f6=>?_⟩;have Gq:=r5.trans r6;have FV:=Gr.trans (r4.trans Gq);have hV:=(FQ.mono (ld.trans FV)).vls;refine⟨FV,q6,_,rfl,f6,?_⟩;rw[eS,map_append,map_append,List.map_take,map_drop];exact .append (hV.drop _) (.append (.cons ((r3.trans (r4.trans Gq)) _ _ f2) (FZ.mono FV).is .nil) (hV.take _))
  rintro σ H13 ⟨Fz,lo,zs,rfl,GC,Gu⟩;walk_at "rd";have FP:(bs.set j (n,y')).map (·.1)=gapsM cs:=by rw[List.map_set,Fy,<- (List.getElem?_eq_some_iff.mp Gg).2,List.set_getElem_self]
  have FN:∀b∈bs.set j (n,y'),VlOf nm[4] b.1 b.2:=fun b hb=>by
   rcases List.mem_or_eq_of_mem_set hb with z|z
   ·exact FO b z
   ·rw[z];exact Gv
  obtain⟨Gk,FG⟩:=gvOf h4 FI FP FN;obtain⟨P,sa,sb,S,e1,e2,e3⟩:=Df hG FC FK;obtain⟨m1,m2⟩:=pN hG BT.1 Gb;obtain⟨b0,b1,b2,pw,pq,f1,f2,f3⟩:=G0;refine Cl lo zs _ H13 _ (GH.trans Fz) GC Gu Gk FG fun p2 H14 FE Gn=>ite2 (fun z=>by cases z) (fun _=>?_);have dl:=((s9.trans mt).trans (ld.trans Fz)).trans FE;refine⟨p1,p2,stpsM cs bs,_,e,vq,otV mk,vq,otV mk,rfl,⟨b0,b1,b2,pw,pq,dl _ _ f1,dl _ _ f2,dl _ _ f3⟩,Gn,by rw[e1,e2];simp,by lia,fun lu H15 Fn GD=>?_⟩;obtain⟨c0,c1,c2,qw,qq,k1,_,_⟩:=Gn;have FT:=(ld.trans Fz).trans (FE.trans Fn);refine cX.mpr ⟨_,.inl (.of GD),_,_,.inl (.of (FT _ _ ad)),aG hv,az.mpr ⟨_,_,.inr (.of (FT _ _ FH)),aG (j:=1) rfl,vlD y',vlD y,(FZ.mono (Fz.trans (FE.trans Fn))).is,(FF.mono FT).is,?_,?_,?_⟩⟩
  ·exact ((Gk.vl (n,y') (mem_of_getElem? (by rw[List.getElem?_set_self (by lia)]))).lay).shaped (by decide)
  ·exact ((hG.vl (n,y) (mem_of_getElem? FC)).lay).shaped (by decide)
  have eN:(!PyData.eqv (vlD y') (vlD y))=!decide (sa=sb):=by
   by_cases z:sa=sb
   ·rw[(pk FK).mpr (e3.mp z),decide_eq_true z]
   ·rw[decide_eq_false z,Bool.eq_false_iff.mpr fun w=>z (e3.mpr ((pk FK).mp w))]
  rw[length_map,e1,e2,pi,eN];walk_at "rd";refine ite2 (fun _=>⟨_,(dl.trans Fn) _ _ f1,fun q1 G1 r1 g1=>⟨_,(Fn.trans r1) _ _ k1,fun q2 G2 r2 g2=>?_⟩⟩) (fun z=>absurd (by by_cases w:sa=sb <;> simp[w]) z)
  rw[show (some (4:Int))=some ((4:Nat):Int) from rfl,eA] at g1 g2;have hq:=(FX.mono (s7.trans (s8.trans (dl.trans (Fn.trans (r1.trans r2))))).toT).is;have l2:SeqAt.shaped (.tuple [qD qs,oD mk])=true:=(LayAt.tup (n:=2) fun d hd=>by
   simp only[mem_cons,not_mem_nil,or_false] at hd;rcases hd with rfl|rfl
   ·exact .qD fun ps e=>(Gd ps e).2
   ·exact (LayAt.oD fun a ha=>(FB a ha).2).le (by decide)).shaped (by decide)
  refine⟨_,_,.tup (r2 _ _ g1) (.cons hq (.cons (bY _).is .nil)),.tup g2 (.cons hq (.cons (bY _).is .nil)),l2,l2,?_⟩;rw[show PyData.eqv (.tuple [qD qs,oD mk]) (.tuple [qD qs,oD mk])=true from eC fun d hd=>by
   simp only[mem_cons,not_mem_nil,or_false] at hd;rcases hd with rfl|rfl
   ·exact (jD _ _).mpr rfl
   ·exact (cy _ _).mpr rfl]
  exact k _
end
theorem usl1 {us:List Value}(h:us.length=1):∃x0,us=[x0]:=List.length_eq_one_iff.mp h
local macro_rules|`(tactic| walk_at "b1")=>`(tactic| exact fun _ _ _ _ _ _ us hl=>by obtain⟨x0,e⟩:=usl1 hl;subst e;rfl)
theorem usl2 {us:List Value}(h:us.length=2):∃x0 x1,us=[x0,x1]:=by
 cases us with
 |nil=>cases h
 |cons x0 l=>obtain⟨x1,rfl⟩:=usl1 (Nat.succ.inj h);exact⟨_,_,rfl⟩
local macro_rules|`(tactic| walk_at "b2")=>`(tactic| exact fun _ _ _ _ _ _ us hl=>by obtain⟨x0,x1,e⟩:=usl2 hl;subst e;rfl)
theorem usl3 {us:List Value}(h:us.length=3):∃x0 x1 x2,us=[x0,x1,x2]:=by
 cases us with
 |nil=>cases h
 |cons x0 l=>obtain⟨x1,x2,rfl⟩:=usl2 (Nat.succ.inj h);exact⟨_,_,_,rfl⟩
local macro_rules|`(tactic| walk_at "b3")=>`(tactic| exact fun _ _ _ _ _ _ us hl=>by obtain⟨x0,x1,x2,e⟩:=usl3 hl;subst e;rfl)
theorem usl4 {us:List Value}(h:us.length=4):∃x0 x1 x2 x3,us=[x0,x1,x2,x3]:=by
 cases us with
 |nil=>cases h
 |cons x0 l=>obtain⟨x1,x2,x3,rfl⟩:=usl3 (Nat.succ.inj h);exact⟨_,_,_,_,rfl⟩
local macro_rules|`(tactic| walk_at "b4")=>`(tactic| exact fun _ _ _ _ _ _ us hl=>by obtain⟨x0,x1,x2,x3,e⟩:=usl4 hl;subst e;rfl)
theorem usl5 {us:List Value}(h:us.length=5):∃x0 x1 x2 x3 x4,us=[x0,x1,x2,x3,x4]:=by
 cases us with
 |nil=>cases h
 |cons x0 l=>obtain⟨x1,x2,x3,x4,rfl⟩:=usl4 (Nat.succ.inj h);exact⟨_,_,_,_,_,rfl⟩
local macro_rules|`(tactic| walk_at "b5")=>`(tactic| exact fun _ _ _ _ _ _ us hl=>by obtain⟨x0,x1,x2,x3,x4,e⟩:=usl5 hl;subst e;rfl)
theorem usl6 {us:List Value}(h:us.length=6):∃x0 x1 x2 x3 x4 x5,us=[x0,x1,x2,x3,x4,x5]:=by
 cases us with
 |nil=>cases h
 |cons x0 l=>obtain⟨x1,x2,x3,x4,x5,rfl⟩:=usl5 (Nat.succ.inj h);exact⟨_,_,_,_,_,_,rfl⟩
local macro_rules|`(tactic| walk_at "b6")=>`(tactic| exact fun _ _ _ _ _ _ us hl=>by obtain⟨x0,x1,x2,x3,x4,x5,e⟩:=usl6 hl;subst e;rfl)
noncomputable abbrev fo (n:Str)(s:Stmt)(d k a b:Value)(e:Option Addr)(c t:Value):FuncData:=W.fnOf n n (defArgs s) (defBody s) (defScope s) d k a b e c t
theorem Fu {l:PySem.W.OpenLaw}{w:World}{K:W.Frag}{h:Heap}{mg:Str->Option Value}{fa:Addr}(X:K.In h)(Gl:h.Ns mainGlobals mg)(hfa:mg "law"=some (.ref fa))(d:D K mg)
  {kC_Cursor:Addr} (aC_Cursor:W.nsIn K mainGlobals "Cursor"=some (some (.ref kC_Cursor)))
  (a18:W.findIn K (.ref kC_Cursor) "__init__"=some (some (.ref f18))) (i18:W.isFn K (.ref f18)=true) (l18:K.lookup f18=some ⟨oc18,od18,.func (W.fnOf "__init__" "Cursor.__init__" (defArgs dA) (defBody dA) (defScope dA) .none kV18 dc18 pm18 an18 cd18 ct18),sl18⟩)
  (a19:W.findIn K (.ref kC_Cursor) "at_end"=some (some (.ref f19))) (i19:W.isFn K (.ref f19)=true) (l19:K.lookup f19=some ⟨oc19,od19,.func (W.fnOf "at_end" "Cursor.at_end" (defArgs dB) (defBody dB) (defScope dB) .none kV19 dc19 pm19 an19 cd19 ct19),sl19⟩)
  (a20:W.findIn K (.ref kC_Cursor) "take"=some (some (.ref f20))) (i20:W.isFn K (.ref f20)=true) (l20:K.lookup f20=some ⟨oc20,od20,.func (W.fnOf "take" "Cursor.take" (defArgs dC) (defBody dC) (defScope dC) .none kV20 dc20 pm20 an20 cd20 ct20),sl20⟩)
  (a21:W.findIn K (.ref kC_Cursor) "passes"=some (some (.ref f21))) (i21:W.isFn K (.ref f21)=true) (l21:K.lookup f21=some ⟨oc21,od21,.func (W.fnOf "passes" "Cursor.passes" (defArgs dD) (defBody dD) (defScope dD) .none kV21 dc21 pm21 an21 cd21 ct21),sl21⟩)
  (a40:W.findIn K (.ref kC_Cursor) "sees"=some (some (.ref f40))) (i40:W.isFn K (.ref f40)=true) (l40:K.lookup f40=some ⟨oc40,od40,.func (W.fnOf "sees" "Cursor.sees" (defArgs dE) (defBody dE) (defScope dE) .none kV40 dc40 pm40 an40 cd40 ct40),sl40⟩)
  (a61:W.nsIn K mainGlobals "undone"=some (some (.ref f61))) (l61:K.lookup f61=some ⟨oc61,od61,.func (fo "undone" gW (.ref T61) kV61 dc61 pm61 an61 cd61 ct61),sl61⟩)
  (d61:K.lookup T61=some ⟨ocT61,odT61,.seq #[.str (Str.ofString "") dt61_0] nT61,slT61⟩)
  {dt67_0:Tok}
  (a67:W.nsIn K mainGlobals "taken_text"=some (some (.ref f67))) (l67:K.lookup f67=some ⟨oc67,od67,.func (fo "taken_text" gX (.ref T67) kV67 dc67 pm67 an67 cd67 ct67),sl67⟩)
  (d67:K.lookup T67=some ⟨ocT67,odT67,.seq #[.none] nT67,slT67⟩)
  {dt77_0:Tok}
  (a77:W.nsIn K mainGlobals "taken_filled_text"=some (some (.ref f77))) (l77:K.lookup f77=some ⟨oc77,od77,.func (fo "taken_filled_text" gY (.ref T77) kV77 dc77 pm77 an77 cd77 ct77),sl77⟩)
  (d77:K.lookup T77=some ⟨ocT77,odT77,.seq #[.none] nT77,slT77⟩)
  {dt88_0:Tok}
  {dt88_1:Tok}
  (a88:W.nsIn K mainGlobals "made_address"=some (some (.ref f88))) (l88:K.lookup f88=some ⟨oc88,od88,.func (fo "made_address" gZ (.ref T88) kV88 dc88 pm88 an88 cd88 ct88),sl88⟩)
  (d88:K.lookup T88=some ⟨ocT88,odT88,.seq #[.none,.none] nT88,slT88⟩)
  {qa0_NAMED_WORDS:Addr}{qd0_NAMED_WORDS:Option Addr}{qn0_NAMED_WORDS:Nat}{qs0_NAMED_WORDS:Array (Option Value)}{qt0_0_NAMED_WORDS:Tok}{qt1_0_NAMED_WORDS:Tok}{qt2_0_NAMED_WORDS:Tok}{qt3_0_NAMED_WORDS:Tok}
  (e_NAMED_WORDS:W.nsIn K mainGlobals "NAMED_WORDS"=some (some (.ref qa0_NAMED_WORDS)))
  (y0_NAMED_WORDS:K.lookup qa0_NAMED_WORDS=some ⟨.type "tuple",qd0_NAMED_WORDS,.seq #[.str (Str.ofString "number") qt0_0_NAMED_WORDS,.str (Str.ofString "word") qt1_0_NAMED_WORDS,.str (Str.ofString "gap") qt2_0_NAMED_WORDS,.str (Str.ofString "rest") qt3_0_NAMED_WORDS] qn0_NAMED_WORDS,qs0_NAMED_WORDS⟩)
  {qa0_WRITTEN_WORDS:Addr}{qd0_WRITTEN_WORDS:Option Addr}{qn0_WRITTEN_WORDS:Nat}{qs0_WRITTEN_WORDS:Array (Option Value)}{qt0_0_WRITTEN_WORDS:Tok}{qt1_0_WRITTEN_WORDS:Tok}{qt2_0_WRITTEN_WORDS:Tok}
  (e_WRITTEN_WORDS:W.nsIn K mainGlobals "WRITTEN_WORDS"=some (some (.ref qa0_WRITTEN_WORDS)))
  (y0_WRITTEN_WORDS:K.lookup qa0_WRITTEN_WORDS=some ⟨.type "tuple",qd0_WRITTEN_WORDS,.seq #[.str (Str.ofString "number") qt0_0_WRITTEN_WORDS,.str (Str.ofString "word") qt1_0_WRITTEN_WORDS,.str (Str.ofString "rest") qt2_0_WRITTEN_WORDS] qn0_WRITTEN_WORDS,qs0_WRITTEN_WORDS⟩)
  {eX:Tok} (e_SIGNS:W.nsIn K mainGlobals "SIGNS"=some (some (.str (Str.ofString " !\"#$&'()*+,-./0123456789:;<=>?@ABCDEFGHIJKLMNOPQRSTUVWXYZ[\\]^_`abcdefghijklmnopqrstuvwxyz{|}~") eX)))
  {eY:Tok} (e_SMALL_LETTERS:W.nsIn K mainGlobals "SMALL_LETTERS"=some (some (.str (Str.ofString "abcdefghijklmnopqrstuvwxyz") eY)))
  {eZ:Tok} (e_LETTERS:W.nsIn K mainGlobals "LETTERS"=some (some (.str (Str.ofString "abcdefghijklmnopqrstuvwxyzABCDEFGHIJKLMNOPQRSTUVWXYZ") eZ)))
  {ec:Tok} (e_LETTERS_AND_FIGURES:W.nsIn K mainGlobals "LETTERS_AND_FIGURES"=some (some (.str (Str.ofString "abcdefghijklmnopqrstuvwxyzABCDEFGHIJKLMNOPQRSTUVWXYZ0123456789") ec)))
  {ee:Tok} (e_FIGURES:W.nsIn K mainGlobals "FIGURES"=some (some (.str (Str.ofString "0123456789") ee)))
  {eh:Tok} (e_PLAIN:W.nsIn K mainGlobals "PLAIN"=some (some (.str (Str.ofString "abcdefghijklmnopqrstuvwxyzABCDEFGHIJKLMNOPQRSTUVWXYZ0123456789-_.") eh)))
  {ek:Tok} (e_FREE_IN_STEPS:W.nsIn K mainGlobals "FREE_IN_STEPS"=some (some (.str (Str.ofString "!$'()*,;@&=+") ek)))
  {el:Tok} (e_FREE_IN_QUESTIONS:W.nsIn K mainGlobals "FREE_IN_QUESTIONS"=some (some (.str (Str.ofString "!$'()*,;@+/?:") el)))
  {eo:Tok} (e_FREE_IN_MARKS:W.nsIn K mainGlobals "FREE_IN_MARKS"=some (some (.str (Str.ofString "!$'()*,;@&=+/?:") eo)))
  {eu:Tok} (e_FIRST_NUMBER:W.nsIn K mainGlobals "FIRST_NUMBER"=some (some (.int 32 eu)))
  {ey:Tok} (e_LAST_NUMBER:W.nsIn K mainGlobals "LAST_NUMBER"=some (some (.int 126 ey)))
  {f7:Tok} (e_NUMBER_LEFT_OUT:W.nsIn K mainGlobals "NUMBER_LEFT_OUT"=some (some (.int 37 f7)))
  {f8:Tok} (e_SMALL_FIGURES:W.nsIn K mainGlobals "SMALL_FIGURES"=some (some (.str (Str.ofString "0123456789abcdef") f8)))
  {fA:Tok} (e_GREAT_FIGURES:W.nsIn K mainGlobals "GREAT_FIGURES"=some (some (.str (Str.ofString "0123456789ABCDEF") fA)))
  {fB:Tok} (e_SCHEME:W.nsIn K mainGlobals "SCHEME"=some (some (.int 0 fB)))
  {fC:Tok} (e_HOUSE:W.nsIn K mainGlobals "HOUSE"=some (some (.int 1 fC)))
  {fD:Tok} (e_DOOR:W.nsIn K mainGlobals "DOOR"=some (some (.int 2 fD)))
  {fE:Tok} (e_WAY:W.nsIn K mainGlobals "WAY"=some (some (.int 3 fE)))
  {fF:Tok} (e_QUESTION:W.nsIn K mainGlobals "QUESTION"=some (some (.int 4 fF)))
  {fG:Tok} (e_MARK:W.nsIn K mainGlobals "MARK"=some (some (.int 5 fG)))
  {fH:Tok} (e_ROOTED:W.nsIn K mainGlobals "ROOTED"=some (some (.int 0 fH)))
  {fI:Tok} (e_STEPS:W.nsIn K mainGlobals "STEPS"=some (some (.int 1 fI)))
  {fJ:Tok} (e_ENDS:W.nsIn K mainGlobals "ENDS"=some (some (.int 2 fJ)))
  {fK:Tok} (e_LONGEST_SCHEME:W.nsIn K mainGlobals "LONGEST_SCHEME"=some (some (.int 8 fK)))
  {fL:Tok} (e_LONGEST_HOUSE:W.nsIn K mainGlobals "LONGEST_HOUSE"=some (some (.int 60 fL)))
  {fM:Tok} (e_LAST_DOOR:W.nsIn K mainGlobals "LAST_DOOR"=some (some (.int 65535 fM)))
  {fN:Tok} (e_STAY:W.nsIn K mainGlobals "STAY"=some (some (.str (Str.ofString ".") fN)))
  {t_UP:Tok} (e_UP:W.nsIn K mainGlobals "UP"=some (some (.str (Str.ofString "..") t_UP)))
  {fO:Tok} (e_PIECES:W.nsIn K mainGlobals "PIECES"=some (some (.int 0 fO)))
  {fP:Tok} (e_CLOSES:W.nsIn K mainGlobals "CLOSES"=some (some (.int 1 fP)))
  {fR:Tok} (e_MOST_PIECES:W.nsIn K mainGlobals "MOST_PIECES"=some (some (.int 12 fR)))
  {fS:Tok} (e_LONGEST_NAME:W.nsIn K mainGlobals "LONGEST_NAME"=some (some (.int 8 fS)))
  {fT:Tok} (e_LONGEST_NUMBER:W.nsIn K mainGlobals "LONGEST_NUMBER"=some (some (.int 60 fT)))
  {fU:Tok} (e_LONGEST_WORD:W.nsIn K mainGlobals "LONGEST_WORD"=some (some (.int 60 fU)))
  {fV:Tok} (e_FIRST_FIGURES:W.nsIn K mainGlobals "FIRST_FIGURES"=some (some (.str (Str.ofString "234567") fV)))
  (z_all:W.nsIn K mainGlobals "all"=some none)
  (z_ord:W.nsIn K mainGlobals "ord"=some none)
  (z_len:W.nsIn K mainGlobals "len"=some none)
  (z_isinstance:W.nsIn K mainGlobals "isinstance"=some none)
  (z_tuple:W.nsIn K mainGlobals "tuple"=some none)
  (z_bool:W.nsIn K mainGlobals "bool"=some none)
  (z_int:W.nsIn K mainGlobals "int"=some none)
  (z_range:W.nsIn K mainGlobals "range"=some none)
  (z_str:W.nsIn K mainGlobals "str"=some none)
  (z_list:W.nsIn K mainGlobals "list"=some none)
  (z_set:W.nsIn K mainGlobals "set"=some none)
  (z_enumerate:W.nsIn K mainGlobals "enumerate"=some none)
  (z_zip:W.nsIn K mainGlobals "zip"=some none)
  (pg_Cursor:W.plainGet K kC_Cursor Str.empty=true)
  (hd_Cursor:W.hasDictIn K kC_Cursor=true)
  (po_Cursor:W.plainOver K kC_Cursor=true)
  (sa_Cursor:W.findIn K (.ref kC_Cursor) "__setattr__"=some (some (.builtin "object.__setattr__")))
  (mk_Cursor:W.makesIn K kC_Cursor=true)
  (kc_Cursor:W.keepIn K (.ref kC_Cursor)=true)
  (nf_Cursor_text:W.findIn K (.ref kC_Cursor) "text"=some none)
  (nf_Cursor_place:W.findIn K (.ref kC_Cursor) "place"=some none)
  (kk:((((W.keepIn K (.ref f18) && W.keepIn K (.ref f19)) && W.keepIn K (.ref f20)) && (W.keepIn K (.ref f21) && W.keepIn K (.ref f40))) && ((W.keepIn K (.ref f61) && W.keepIn K (.ref f67)) && (W.keepIn K (.ref f77) && W.keepIn K (.ref f88))))=true)
  (cc:((((W.codeIn K cd18 "Cursor.__init__" && W.codeIn K cd19 "Cursor.at_end") && W.codeIn K cd20 "Cursor.take") && (W.codeIn K cd21 "Cursor.passes" && W.codeIn K cd40 "Cursor.sees")) && ((W.codeIn K cd61 "undone" && W.codeIn K cd67 "taken_text") && (W.codeIn K cd77 "taken_filled_text" && W.codeIn K cd88 "made_address")))=true) :
  ∃fd:FuncData,(∀(s:Shared) (v:Value),BindsTo s fd ⟨[v],[]⟩ [("_law_script",v)])∧∀base:Heap,K.In base->base.Ns mainGlobals mg->FnOk l.prog w K mg base CX0 11 fa fd ["_law_script"] (sp_law K):=by
 have e2:d.f_law.a=fa:=by have e:=hfa.symm.trans d.f_law.m;cases e;rfl
 subst e2;have M:∀{x:Str}{v:Value},W.nsIn K mainGlobals x=some (some v)->mg x=some v:=fun a=>W.mg_of X Gl a;simp only[Bool.and_eq_true] at kk cc;obtain⟨⟨⟨⟨Fx,Fr⟩,Fn⟩,⟨Cl,BT⟩⟩,⟨⟨mt,ld⟩,⟨dl,ad⟩⟩⟩:=kk;obtain⟨⟨⟨⟨FG,FF⟩,FE⟩,⟨FD,FC⟩⟩,⟨⟨FB,FA⟩,⟨Fz,Fy⟩⟩⟩:=cc;have F18:=cW (st:=dA) l18 FG Fx;have F19:=cW (st:=dB) l19 FF Fr;have F20:=cW (st:=dC) l20 FE Fn;have F21:=cW (st:=dD) l21 FD Cl;have F40:=cW (st:=dE) l40 FC BT;have F61:=fm (st:=gW) l61 FB mt;have F67:=fm (st:=gX) l67 FA ld;have F77:=fm (st:=gY) l77 Fz dl;have F88:=fm (st:=gZ) l88 Fy ad
 let g:G K mg:={
  toD:=d,
  gt:=f18,gu:=_,sE:=F18,
  sF:=F18.binds (by walk_at "b2"),
  gv:=f19,gw:=_,sG:=F19,ky:=⟨a19,i19,F19.kp⟩,
  kr:=F19.binds (by walk_at "b1"),
  gx:=f20,gy:=_,sH:=F20,dO:=⟨a20,i20,F20.kp⟩,
  dM:=F20.binds (by walk_at "b1"),
  gz:=f21,hC:=_,sI:=F21,bc:=⟨a21,i21,F21.kp⟩,
  bb:=F21.binds (by walk_at "b2"),
  hU:=f40,i6:=_,sJ:=F40,eW:=⟨a40,i40,F40.kp⟩,
  eO:=F40.binds (by walk_at "b2"),
  i7:=f61,eQ:=_,sK:=T61,sL:=dt61_0,eR:=F61,i8:=M a61,
  i9:=F61.binds (ps:=["text","free"]) (ds:=[]) d61 fun _ _ _ _ _ _ us hl=>by rw[append_nil] at hl;obtain⟨x0,x1,e⟩:=usl2 hl;subst e;exact⟨_,rfl,rfl⟩,
  Dw:=F61.binds (ps:=["text","free"]) (ds:=[.str (Str.ofString "") dt61_0]) d61 fun _ _ _ _ _ _ us hl=>by obtain⟨x,rfl⟩:=xa hl;exact⟨_,rfl,rfl⟩,
  iA:=f67,eT:=_,sM:=T67,Dx:=dt67_0,cQ:=F67,ce:=M a67,
  sN:=F67.binds (ps:=["cursor","free","most"]) (ds:=[]) d67 fun _ _ _ _ _ _ us hl=>by rw[append_nil] at hl;obtain⟨x0,x1,x2,e⟩:=usl3 hl;subst e;exact⟨_,rfl,rfl⟩,
  dN:=F67.binds (ps:=["cursor","free","most"]) (ds:=[.none]) d67 fun _ _ _ _ _ _ us hl=>by obtain⟨x,y,rfl⟩:=nv hl;exact⟨_,rfl,rfl⟩,
  iB:=f77,eU:=_,sO:=T77,Dy:=dt77_0,iC:=F77,kt:=M a77,
  sQ:=F77.binds (ps:=["cursor","free","most"]) (ds:=[]) d77 fun _ _ _ _ _ _ us hl=>by rw[append_nil] at hl;obtain⟨x0,x1,x2,e⟩:=usl3 hl;subst e;exact⟨_,rfl,rfl⟩,
  sP:=F77.binds (ps:=["cursor","free","most"]) (ds:=[.none]) d77 fun _ _ _ _ _ _ us hl=>by obtain⟨x,y,rfl⟩:=nv hl;exact⟨_,rfl,rfl⟩,
  iE:=f88,eV:=_,sR:=T88,Dz:=dt88_0,DA:=dt88_1,iF:=F88,ku:=M a88,
  sU:=F88.binds (ps:=["table","base","name","values","question","mark"]) (ds:=[]) d88 fun _ _ _ _ _ _ us hl=>by rw[append_nil] at hl;obtain⟨x0,x1,x2,x3,x4,x5,e⟩:=usl6 hl;subst e;exact⟨_,rfl,rfl⟩,
  sS:=F88.binds (ps:=["table","base","name","values","question","mark"]) (ds:=[.none,.none]) d88 fun _ _ _ _ _ _ us hl=>by obtain⟨x0,x1,x2,x3,rfl⟩:=usl4 (show us.length=4 by rw[length_append] at hl;exact Nat.add_right_cancel (m:=2) hl);exact⟨_,rfl,rfl⟩,
  iK:=qa0_NAMED_WORDS,t7:=W.mg_of X Gl e_NAMED_WORDS,t8:=fun H=>(.tup (xs:=[.str (Str.ofString "number"),.str (Str.ofString "word"),.str (Str.ofString "gap"),.str (Str.ofString "rest")]) (.inr ⟨_,_,_,y0_NAMED_WORDS,rfl,rfl,(by show 4≤sizeLine;decide),(.cons ⟨_,rfl⟩ (.cons ⟨_,rfl⟩ (.cons ⟨_,rfl⟩ (.cons ⟨_,rfl⟩ .nil))))⟩) (.cons (.str _) (.cons (.str _) (.cons (.str _) (.cons (.str _) .nil))))),
  iL:=qa0_WRITTEN_WORDS,t9:=W.mg_of X Gl e_WRITTEN_WORDS,tD:=fun H=>(.tup (xs:=[.str (Str.ofString "number"),.str (Str.ofString "word"),.str (Str.ofString "rest")]) (.inr ⟨_,_,_,y0_WRITTEN_WORDS,rfl,rfl,(by show 3≤sizeLine;decide),(.cons ⟨_,rfl⟩ (.cons ⟨_,rfl⟩ (.cons ⟨_,rfl⟩ .nil)))⟩) (.cons (.str _) (.cons (.str _) (.cons (.str _) .nil)))),
  eX:=eX,kz:=W.mg_of X Gl e_SIGNS,
  eY:=eY,l0:=W.mg_of X Gl e_SMALL_LETTERS,
  eZ:=eZ,sY:=W.mg_of X Gl e_LETTERS,
  ec:=ec,sZ:=W.mg_of X Gl e_LETTERS_AND_FIGURES,
  ee:=ee,iG:=W.mg_of X Gl e_FIGURES,
  eh:=eh,iH:=W.mg_of X Gl e_PLAIN,
  ek:=ek,dP:=W.mg_of X Gl e_FREE_IN_STEPS,
  el:=el,iI:=W.mg_of X Gl e_FREE_IN_QUESTIONS,
  eo:=eo,sh:=W.mg_of X Gl e_FREE_IN_MARKS,
  eu:=eu,l4:=W.mg_of X Gl e_FIRST_NUMBER,
  ey:=ey,si:=W.mg_of X Gl e_LAST_NUMBER,
  f7:=f7,l5:=W.mg_of X Gl e_NUMBER_LEFT_OUT,
  f8:=f8,f9:=W.mg_of X Gl e_SMALL_FIGURES,
  fA:=fA,l6:=W.mg_of X Gl e_GREAT_FIGURES,
  fB:=fB,l7:=W.mg_of X Gl e_SCHEME,
  fC:=fC,sj:=W.mg_of X Gl e_HOUSE,
  fD:=fD,sk:=W.mg_of X Gl e_DOOR,
  fE:=fE,l8:=W.mg_of X Gl e_WAY,
  fF:=fF,so:=W.mg_of X Gl e_QUESTION,
  fG:=fG,sq:=W.mg_of X Gl e_MARK,
  fH:=fH,l9:=W.mg_of X Gl e_ROOTED,
  fI:=fI,iJ:=W.mg_of X Gl e_STEPS,
  fJ:=fJ,lA:=W.mg_of X Gl e_ENDS,
  fK:=fK,sr:=W.mg_of X Gl e_LONGEST_SCHEME,
  fL:=fL,su:=W.mg_of X Gl e_LONGEST_HOUSE,
  fM:=fM,sv:=W.mg_of X Gl e_LAST_DOOR,
  fN:=fN,sw:=W.mg_of X Gl e_STAY,
  t_UP:=t_UP,c_UP:=W.mg_of X Gl e_UP,
  fO:=fO,cA:=W.mg_of X Gl e_PIECES,
  fP:=fP,fQ:=W.mg_of X Gl e_CLOSES,
  fR:=fR,t5:=W.mg_of X Gl e_MOST_PIECES,
  fS:=fS,t6:=W.mg_of X Gl e_LONGEST_NAME,
  fT:=fT,tE:=W.mg_of X Gl e_LONGEST_NUMBER,
  fU:=fU,tF:=W.mg_of X Gl e_LONGEST_WORD,
  fV:=fV,tG:=W.mg_of X Gl e_FIRST_FIGURES,
  dQ:=W.mg_none_of X Gl z_all,
  iM:=W.mg_none_of X Gl z_ord,
  aZ:=W.mg_none_of X Gl z_len,
  bE:=W.mg_none_of X Gl z_isinstance,
  bn:=W.mg_none_of X Gl z_tuple,
  lB:=W.mg_none_of X Gl z_bool,
  cB:=W.mg_none_of X Gl z_int,
  bo:=W.mg_none_of X Gl z_range,
  cC:=W.mg_none_of X Gl z_str,
  iN:=W.mg_none_of X Gl z_list,
  tH:=W.mg_none_of X Gl z_set,
  lC:=W.mg_none_of X Gl z_enumerate,
  tI:=W.mg_none_of X Gl z_zip,
  aV:=kC_Cursor,aW:=⟨pg_Cursor,hd_Cursor,po_Cursor,sa_Cursor⟩,sW:=W.mg_of X Gl aC_Cursor,
  c9:=nf_Cursor_text,
  bR:=nf_Cursor_place,
  sX:=⟨mk_Cursor,a18,i18,kc_Cursor⟩}
 refine⟨d.f_law.fd,fun s v=>?_,fun base _ _=>Ft g⟩;obtain⟨_,_,_,_,_,_,_,_,_,e,_⟩:=d.f_law.F.ex;rw[e];exact .of_eq rfl
theorem walk {l:PySem.W.OpenLaw}{q:Program}{loose:List Str}{XP:(Str->Option Value)->Heap->Prop}{YP:World->Heap->Prop}{d:DefRec}{K:Params->W.Frag}(hn:l.most=some 63)(hdf:d.params.defaults=[])
  (hY:∀(w:World) (h:Heap),YP w h->(K w.params).In h)
  (F:∀(w:World) (mg:Str->Option Value) (fa:Addr) (h:Heap),(K w.params).In h->h.Ns mainGlobals mg->mg d.name=some (.ref fa) ->
   ∃fd:FuncData,(∀(s:Shared) (u:Value),BindsTo s fd ⟨[u],[]⟩ [("_law_script",u)])∧∀base:Heap,(K w.params).In base->base.Ns mainGlobals mg->FnOk l.prog w (K w.params) mg base CX0 11 fa fd ["_law_script"] (sp_law (K w.params))) :
  PySem.W.WalkO q loose XP YP l.row.toRowW d [] (fun f vs=>PySem.call f vs):=
 L2.vn (n:=63) (k:=11) (x := "_law_script") (CX:=fun _=>CX0) (sp:=fun w=>sp_law (K w.params)) hn (by decide) hdf ⟨rfl,by decide,by decide⟩ hY F (fun _ _ a ns hl _ hS=>⟨a,ns,rfl,hS,hl,fun _=>rfl⟩) fun _ _ _ _ _ z=>z
end Wm
structure PySem.W.Fast:Prop where(tw4497811405521096120 tw14982285605520284338 tw7568287530309145260 tw7384455877010447983 tw15715238865447987553 tw16686594806914487035 tw10076539874733880711 tw6642290413497879225 tw17358658121392724901 tw15695041297634880906 tw12221794711794283951 tw17372768922615786033 tw14429059789962967772 tw16084954219106815520 tw17229926718722910216 tw12365922550315228504 tw14822057372227753950 tw3474760809627519452 tw10568343804465320279 tw4576365286361762179 tw16480152329365754776 tw4131834203103590683 tw12417683921639558881 tw17372962453104933709 tw3377763720529410900 tw10556637709386919721 tw2336638649057313833 tw2404988806174581051 tw8733921846134261932 tw16777571479699029797 tw10118599392669855218 tw9804194911866541331 tw15607946202818112595 tw13680560070526902103 tw5509225406773247214 tw5262204224643411120 tw900776630818735818 tw14291262215471744283 tw16778137109256087361 tw5860079856015830675 tw10669394943092106520 tw17180030803783585228 tw16430785354959016693 tw12334045646506208329 tw11172328291359301791 tw7068299571873154343 tw95278424442441201 tw8100794502515040188 tw15870518546324230489 tw7543405313274467138 tw8822835626333770863 tw1837446439824864978 tw7739273476477745037 tw1537226895133321619 tw3433614122875914352 tw5605118663352452977 tw2338435652639435025 tw2167518432369385174 tw7229957117610920794 tw4415963646095174202 tw14031370281069611810 tw2870718584781896562 tw7054574183061899281 tw18403990900217617873 tw5797630108625292481 tw10066394038343876236 tw11886781000588164320 tw14594373281407084802 tw7927728020503751670 tw4910963122485657410 tw16860234500392693556 tw12840036138383327412 tw663809568076564202 tw13374271705247772454 tw13223634354369988597 tw7399035400198603347 tw13364634498511374690 tw15602175405530622613 tw18075934021796552429 tw15038869230488889170 tw6558501999481240629 tw8729170295441599482 tw16725139139384963076 tw8859086196744899077 tw5927757381573660550 tw9971594583394264650 tw387936859928801657 tw8793305553579485293 tw8100560692277153708 tw6775217492797120513 tw9125063127978568396 tw11475121333692272457 tw6713868915839909447 tw8471604841929451491 tw17601309090678549556 tw8158900183291856177 tw7403105662591825253 tw11503222088862229394 tw13749500024325851825 tw14518343302590770657 tw14089081018230118121 tw9065545977530996905 tw5642431415105287394 tw11414086604032123118 tw10357169237882621160 tw4264929878148050793 tw7546877484149547702 tw13607242090289273339 tw7753586120879158749 tw7365994106818130823 tw11952516493342817570 tw16704291481400601895 tw17925938849044778449 tw1718765219532882150 tw4561333081050296407 tw123263477761049797 tw15083073159426339395 tw2071806343784322527 tw7407233044497954555 tw3916330873967159516 tw2818942831576066937 tw1673329059530252693 tw6301463738598987176 tw13738416465592510710 tw5916844383942655579 tw12392575792356171998 tw9242188978098653815 tw4370620232929439075 tw4480176580718758189 tw3965225255546567567 tw18300886916877984144 tw12729072873080808251 tw4625236750920178542 tw15063543585835743544 tw9248088395400516272 tw9796082872129319567 tw5775291962571843567 tw17406182693516707378 tw4005486111716306844 tw283355237222761991 tw168150593203657890 tw5974102893431903339 tw17814311766749433436 tw3667564006333789287 tw16104194900354192927 tw11037444638598158074 tw275176505964712326 tw4273365840125746015 tw14888198346332310012 tw3883007376051128478 tw15208114347352411111 tw1212784341762045616 tw7879779369204425252 tw15693683660081607412 tw767032023895302994 tw12460677358791903954 tw7087046661363040881 tw4402597164518760993 tw10745570038504599780 tw4818859545076952386 tw7296659844198421311 tw10527565086035621649 tw15498523401240779761 tw352611045588297077 tw5053761035806232120 tw2324953218969814417 tw9591209324653225162 tw180522903863785513 tw1826136672794059013 tw795342802254091066 tw16896996769275393187 tw8321077981213640507 tw14606636402777702573 tw11440995966941054296 tw15345690777349275975 tw14452249878463331619 tw9123840149417669260 tw8953626012503043143 tw1775881263088030241 tw2176986171034936679 tw17252236164002562947 tw2746681966902926199 tw11197912689342447015 tw7894786986077603605 tw16638088105647431441 tw5058012735247050913 tw4622879501254148401 tw5732660684829430133 tw17619964463176995951 tw11376031904272466244 tw3037845032274077920 tw2978986642974607487 tw4803000945247944049 tw12264779506873722708 tw2265419994615117837 tw11343017659556799551 tw2031028586944738196 tw18183184375738334824 tw11280477588711085686 tw4979456535215150830 tw2788017711015957085 tw5418736596517393722 tw17279064992677693077 tw10728840030948404497 tw943419993881316389 tw9244109339308357817 tw14448338106804934233 tw17800281453972568474 tw14981031001529601858 tw14861880514748675566 tw2494017340628771778 tw12936798244245410446 tw6327828882634379876 tw4864343051507025250 tw9887395975886449401 tw11743328693660483365 tw10911095407719323768 tw3351419009616167192 tw10173794408083313735 tw12997345879536381181 tw18025701135940172071 tw10395185332112711233 tw7651281173224147293 tw7870520856000747768 tw3233873978359948498 tw1309913146117275297 tw10154618607365102494 tw355543930659095325 tw16221945675879428429 tw5307362465064461573 tw4696931595103513691 tw15201414087573180620 tw1283903208006874908 tw2288505734167248035 tw13230271349158319782 tw10212758983746640449 tw2495108551840396103 tw5820240660110926768 tw11832464009452872820 tw9363775026742634286 tw17421790431631573610 tw3321997322767843594 tw2738068755209979260 tw9634061418804675028 tw18049125368519627581 tw900584905377882954 tw11354562750044100383 tw12152232736510050360 tw5658940195706887460 tw2074105541074447785 tw13606725811944316696 tw5852441667490801523 tw12571578893663177230 tw14433120390486844732 tw9686620109443527692 tw8837480962141835235 tw9717731981535576142 tw13275995461404137412 tw15132621394344740955 tw10555487552247450029 tw11983379322957034891 tw10683041818056377949 tw13877903782094778145 tw17634933204746742211 tw6107068095717699780 tw5723937660294508576 tw15159298759619203668 tw7869317651029251143 tw1270427259555279986 tw17697664727631705594 tw12508267629096435445 tw14036382978194668676 tw12435695975166147492 tw15808093334035563730 tw8321813124053557324 tw14213540455140089874 tw15535636549221640410 tw3198305792669245355 tw1589149026280060827 tw10306596772592720803 tw10314935557971298032 tw16160764811153897734 tw18188972130654929665 tw6007200598683833214 tw12675819054007918400 tw6310920629304394926 tw546916405966983752 tw6992358130622174679 tw10910860243767382122 tw18062414069900266574 tw2572404990437984916 tw10500084544124521267 tw5501742454496309309 tw16440160916537029714 tw12792720004138758375 tw9055357358994389000 tw13096248912785393406 tw11080674757795581640 tw16566920452326774159 tw1073960385009718028 tw17959645671614510996 tw17313508504692024285 tw8057143032024214002 tw16966805766426276490 tw10109119559089878891 tw15927449929893874772 tw9038941548675266774 tw13809187224480701959 tw8209305136252420199 tw13168366720870107210 tw4920402259372858614 tw15584207139866376862 tw8635104667119343687 tw1707992871745615840 tw7258305885732180478 tw11502515056412064538 tw93132506973411528 tw1145117977484527770 tw15035550704773735008 tw1681156506648474931 tw12422679033244078083 tw11213257747139059986 tw1300314881551823532 tw14190481649483122822 tw15781039356047444611 tw14177246919424242609 tw11405307370328610054 tw14450670154878284661 tw17763156517641346158 tw6387679483450807854 tw7637587863343075899 tw17883127933661978455 tw2793250469231640967 tw5253484670299033313 tw4222740848767910493 tw5512903105283900880 tw1625362755435267401 tw13922847016554188760 tw12686844976454855162 tw821999434411096180 tw31151723786400157 tw14404559807424368549 tw12679771633297580513 tw16160808324687630289 tw3648531906058680312 tw11648682907110292982 tw14873751787177190212 tw3166580399951440974 tw2806306445993655227 tw5337191656194793559 tw8199458236126467737 tw4486294972075950203 tw7089051440359873722 tw9406765361580647433 tw1926118485418081291 tw16422456078806456548 tw11555476933913160737 tw16325458509799409931 tw2333022506866687864 tw5881481197997034008 tw15844901642325054715 tw7785540016117102424 tw14066758158023843339 tw13858449651896438802 tw6363376510583737056 tw18190145688685163666 tw4470844773332671830 tw5915572704038547670 tw15056209586348751085 tw412070419228732710 tw5073942077366389015 tw15838359563325105918 tw16303494362485396364 tw781172607985457734 tw1215434559380270191 tw5751752877356995114 tw17233754305939738451 tw10213924750733279888 tw9979452681692488606 tw14523382891844597382 tw12470595354036354272 tw15172595663372040223 tw11902807334291898941 tw9225491031005022875 tw4833332459520288489 tw4330920422736996844 tw12536461756486040580 tw492001371339616487 tw8848067570535897787 tw5823992562935619890 tw7626336314294977714 tw11199231918376628973 tw14643282377324085974 tw9282697926728351652 tw8933660194853623974 tw14488845257435807839 tw10069541191554181177 tw14103060890145291520 tw12454651029593588137 tw11530543896166791870 tw17655149622451764594 tw11558072642466008446 tw7530656464325878250 tw12857494208072347768 tw1022024811922670024 tw9571450237668671100 tw9076985453895965950 tw9782715734896172366 tw2102747217322895891 tw7089027416490649365 tw12587505580760073122 tw4412157096578873952 tw10977365919002536918 tw1205827990980957583 tw17703953810679457554 tw13166591255235224512 tw13586854060148624479 tw10498519282237206739 tw12742796908710880077 tw2144782380431475901 tw4800171861543330111 tw16185237282032299273 tw15363340858149199372 tw11179693659777766194 tw8743681212924500211 tw17890683620671244305 tw4230929926893285217 tw17804163431234268314 tw7945477612067145703 tw17410326899204818415 tw13637555989630158832 tw9261638424878492307 tw689069389753729879 tw9891071779037471785 tw14652857591842199724 tw1641579151135296225 tw14267799278037078346 tw12908779383295593862 tw9805310606061754943 tw3374939255087043329 tw4583622885834085462 tw17337048612713056809 tw1265964258468935804 tw2627805075195357007 tw3142124352647496399 tw8086694641405449742 tw796188555835990849 tw17050241961857131720 tw14031005960612837954 tw18212888827545854576 tw18157117936400513055 tw14474110765977854 tw16928979314950720889 tw9700322656943610425 tw11525952418473016335 tw3499767110117216359 tw10320184635186248761 tw2791404779726556592 tw15339513946101600988 tw1338499330024803418 tw7638778696896885691 tw15189293553178728987 tw10463520559469318299 tw10403860422363052391 tw2134308845701403839 tw6098903138111357390 tw4139578673668350135 tw2508041874436350623 tw18052951120073578992 tw1125995539824819248 tw9985141795112464377 tw7535769605293548782 tw17862419623214835467 tw14700758445437971552 tw4563204160815185524 tw7256072797733852791 tw4724020736646111084 tw7802692754831613011 tw14313592489994762673 tw14360922285284258282 tw1928899399203714317 tw4993147941108045991 tw15056555742148421955 tw2895552427000570625 tw7247702966062585829 tw5295896253679146363 tw16512779211976097132 tw8343851823675408750:True)
open PySem PySem.W PyProof.Rows
set_option maxRecDepth 100000 in
set_option maxHeartbeats 0 in
theorem PySem.Challenge.cw_waymark_k96_whole_no_text_changes_anothe_holds : PySem.Challenge.rw_waymark_k96_whole_no_text_changes_anothe.Holds := by
 w_on; o_law; k_head; (case hw => w_witness2)
 k_fill
 refine Wm.walk (l := PySem.Challenge.rw_waymark_k96_whole_no_text_changes_anothe) rfl rfl (fun w h Y => PySem.W.kIn_of Y) ?F
 case F =>
  intro w mg fa h KX G hmg
  refine' Wm.Fu (dt67_0 := 0) (dt77_0 := 0) (dt88_0 := 0) (dt88_1 := 0) KX G hmg ?d ?aC_Cursor ?a18 ?i18 ?l18 ?a19 ?i19 ?l19 ?a20 ?i20 ?l20 ?a21 ?i21 ?l21 ?a40 ?i40 ?l40 ?a61 ?l61 ?d61 ?a67 ?l67 ?d67 ?a77 ?l77 ?d77 ?a88 ?l88 ?d88 ?e_NAMED_WORDS ?y0_NAMED_WORDS ?e_WRITTEN_WORDS ?y0_WRITTEN_WORDS ?e_SIGNS ?e_SMALL_LETTERS ?e_LETTERS ?e_LETTERS_AND_FIGURES ?e_FIGURES ?e_PLAIN ?e_FREE_IN_STEPS ?e_FREE_IN_QUESTIONS ?e_FREE_IN_MARKS ?e_FIRST_NUMBER ?e_LAST_NUMBER ?e_NUMBER_LEFT_OUT ?e_SMALL_FIGURES ?e_GREAT_FIGURES ?e_SCHEME ?e_HOUSE ?e_DOOR ?e_WAY ?e_QUESTION ?e_MARK ?e_ROOTED ?e_STEPS ?e_ENDS ?e_LONGEST_SCHEME ?e_LONGEST_HOUSE ?e_LAST_DOOR ?e_STAY ?e_UP ?e_PIECES ?e_CLOSES ?e_MOST_PIECES ?e_LONGEST_NAME ?e_LONGEST_NUMBER ?e_LONGEST_WORD ?e_FIRST_FIGURES ?z_all ?z_ord ?z_len ?z_isinstance ?z_tuple ?z_bool ?z_int ?z_range ?z_str ?z_list ?z_set ?z_enumerate ?z_zip ?pg_Cursor ?hd_Cursor ?po_Cursor ?sa_Cursor ?mk_Cursor ?kc_Cursor ?nf_Cursor_text ?nf_Cursor_place ?kk ?cc
  case d =>
   constructor
   all_goals
    refine' L2.D6 KX G ?a ?l ?c ?k ?b
    (case a | l => k_is)
    (case c | k => first | k_is | with_unfolding_all kernel_rfl | with_unfolding_all rfl)
    case b =>
     intro _ _ _ _ _ _ us hl
     first
     | (obtain ⟨_, e⟩ := Wm.usl1 hl; subst e; rfl)
     | (obtain ⟨_, _, e⟩ := Wm.usl2 hl; subst e; rfl)
     | (obtain ⟨_, _, _, e⟩ := Wm.usl3 hl; subst e; rfl)
     | (obtain ⟨_, _, _, _, e⟩ := Wm.usl4 hl; subst e; rfl)
     | (obtain ⟨_, _, _, _, _, e⟩ := Wm.usl5 hl; subst e; rfl)
     | (obtain ⟨_, _, _, _, _, _, e⟩ := Wm.usl6 hl; subst e; rfl)
  (case aC_Cursor | a18 | i18 | l18 | a19 | i19 | l19 | a20 | i20 | l20 | a21 | i21 | l21 | a40 | i40 | l40 | a61 | l61 | d61 | a67 | l67 | d67 | a77 | l77 | d77 | a88 | l88 | d88 | e_NAMED_WORDS | y0_NAMED_WORDS | e_WRITTEN_WORDS | y0_WRITTEN_WORDS | e_SIGNS | e_SMALL_LETTERS | e_LETTERS | e_LETTERS_AND_FIGURES | e_FIGURES | e_PLAIN | e_FREE_IN_STEPS | e_FREE_IN_QUESTIONS | e_FREE_IN_MARKS | e_FIRST_NUMBER | e_LAST_NUMBER | e_NUMBER_LEFT_OUT | e_SMALL_FIGURES | e_GREAT_FIGURES | e_SCHEME | e_HOUSE | e_DOOR | e_WAY | e_QUESTION | e_MARK | e_ROOTED | e_STEPS | e_ENDS | e_LONGEST_SCHEME | e_LONGEST_HOUSE | e_LAST_DOOR | e_STAY | e_UP | e_PIECES | e_CLOSES | e_MOST_PIECES | e_LONGEST_NAME | e_LONGEST_NUMBER | e_LONGEST_WORD | e_FIRST_FIGURES | z_all | z_ord | z_len | z_isinstance | z_tuple | z_bool | z_int | z_range | z_str | z_list | z_set | z_enumerate | z_zip | pg_Cursor | hd_Cursor | po_Cursor | sa_Cursor | mk_Cursor | kc_Cursor | nf_Cursor_text | nf_Cursor_place => k_is)
  (case kk | cc => first | k_is | with_unfolding_all kernel_rfl | with_unfolding_all rfl)
