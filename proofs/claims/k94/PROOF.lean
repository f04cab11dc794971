import PyProof.Rows.All
import Wide.All
import OpenK.KLine
import OpenK.KMore
import OpenK.KRaise
import OpenK.KMake
import OpenK.KOwn
import OpenK.KDescr
import OpenK.KFacts
import KE.KIntText
import KE.KIsAll
import KE.RegKIsAll
import KE.KTabLook
import KE.LcSums
import KE.KxSplit
import KE.KStrWords
import KE.KSetInts
import KE.KRevIter
import KE.KDictOf
import Lean
import PyProof.EqAt
import PyProof.EqKinds
import PyProof.TupleCall
import PySem.Challenge.RW_waymark_k94_whole_filled_and_led_back
open List(take_nil drop_nil mem_filter mem_range filterMap_cons mem_cons_self mem_cons_of_mem mem_cons mem_append mem_append_left mem_append_right length_cons map_cons length_map append_nil nodup_cons of_mem_zip length_take mem_of_getElem? length_append length_replicate size_toArray length_drop map_nil all_cons any_cons replicate_succ flatten_cons append_assoc length_singleton not_mem_nil take_add_one map_append take_length range_succ map_congr_left length_range take_of_length_le drop_eq_nil_of_le drop_zero flatMap_cons getElem_mem drop_eq_getElem_cons sum_cons drop_drop mem_map cons_append mem_singleton all_eq_true map_map nil_append forIn_cons length_nil take_append_drop all_append lookup_cons length_pos_iff mem_of_mem_drop nodup_iff_pairwise_ne length_filter_le filter_append filter_map range_succ_eq_map filter_cons length_eq_zero_iff map_id mem_map_of_mem mem_of_mem_take take_left drop_left take_zero length_dropLast mem_reverse all_map drop_length isEmpty_map map_drop)
set_option Elab.async false
set_option compiler.extract_closed false
set_option linter.all false
set_option maxRecDepth 100000
open PySem.Str(ofString)
abbrev Tq:=List Nat
local macro_rules|`(tactic| fail "k")=>`(tactic| decide +kernel)
namespace L2
open PySem PySem.Spec PyProof.Rows
noncomputable abbrev Key:=Sum Int Str
noncomputable def keyIs:Key->Value->Bool
 |.inl k,v=>Value.isInt k v
 |.inr x,v=>Value.isStrOf x v
noncomputable def keyH (w:World):Key->Int
 |.inl k=>hashInt k
 |.inr x=>hashStr w x
theorem bA:∀{k:Key}{v:Value},keyIs k v=true->(∃i t,k=Sum.inl i/\v=Value.int i t)\/(∃x t,k=Sum.inr x/\v=Value.str x t)
 |.inl i,v,h=>by obtain⟨t,e⟩:=Value.isInt_shape (k:=i) (v:=v) h;exact .inl ⟨i,t,rfl,e⟩
 |.inr x,v,h=>by obtain⟨t,e⟩:=Value.isStrOf_shape (x:=x) (v:=v) h;exact .inr ⟨x,t,rfl,e⟩
theorem sJ (i:Int)(t:Tok):keyIs (.inl i) (.int i t)=true:=by simp[keyIs,Value.isInt]
theorem sK (x:Str)(t:Tok):keyIs (.inr x) (.str x t)=true:=by simp[keyIs,Value.isStrOf]
theorem sM (a b:Int):decide ((Sum.inl a:Key)=Sum.inl b)=(a == b):=by
 by_cases e:a=b
 .subst e;simp
 .have h:¬ (Sum.inl a:Key)=Sum.inl b:=λq=>e (Sum.inl.inj q);rw[decide_eq_false h];exact (beq_eq_false_iff_ne.mpr e).symm
theorem sN (a b:Str):decide ((Sum.inr a:Key)=Sum.inr b)=decide (a=b):=by
 by_cases e:a=b
 .subst e;simp
 .have h:¬ (Sum.inr a:Key)=Sum.inr b:=λq=>e (Sum.inr.inj q);rw[decide_eq_false h,decide_eq_false e]
theorem sO (a:Int)(b:Str):decide ((Sum.inl a:Key)=Sum.inr b)=false:=decide_eq_false (λq=>nomatch q)
theorem sP (a:Str)(b:Int):decide ((Sum.inr a:Key)=Sum.inl b)=false:=decide_eq_false (λq=>nomatch q)
noncomputable def mixKind (prog:Program)(w:World):PySem.KeyKind prog w Key where
 is:=keyIs
 hash:=keyH w
 inj:=λv a b ha hb=>by
  rcases bA ha with⟨i,t,rfl,rfl⟩|⟨x,t,rfl,rfl⟩
  .rcases bA hb with⟨j,u,rfl,e⟩|⟨y,u,rfl,e⟩
   .injection e with e1 _;rw[e1]
   .exact nomatch e
  .rcases bA hb with⟨j,u,rfl,e⟩|⟨y,u,rfl,e⟩
   .exact nomatch e
   .injection e with e1 _;rw[e1]
 byValue:=λk v h=>by rcases bA h with⟨i,t,rfl,rfl⟩|⟨x,t,rfl,rfl⟩ <;> rfl
 pyHash:=λhv h=>by
  rcases bA hv with⟨i,t,rfl,rfl⟩|⟨x,t,rfl,rfl⟩
  .exact wpAny_pyHash_int h
  .exact wpAny_pyHash_str h
 eqBool:=λhu hv h=>by
  rcases bA hu with⟨i,t,rfl,rfl⟩|⟨x,t,rfl,rfl⟩
  .rcases bA hv with⟨j,u,rfl,rfl⟩|⟨y,u,rfl,rfl⟩
   .rw[sM] at h;exact wpAny_eqBool_int h
   .rw[sO] at h;exact SeqAt.EqAt.int_str i t y u _ _ _ _ h
  .rcases bA hv with⟨j,u,rfl,rfl⟩|⟨y,u,rfl,rfl⟩
   .rw[sP] at h;exact SeqAt.EqAt.str_int x t j u _ _ _ _ h
   .rw[sN] at h;exact wpAny_eqBool_str h
 «strs»:=λk x t v h=>by
  rcases bA h with⟨i,u,rfl,e⟩|⟨y,u,rfl,e⟩
  .exact nomatch e
  .injection e with e1 _;subst e1;cases v <;> rfl
theorem sQ (prog:Program)(w:World)(i:Int)(t:Tok):(mixKind prog w).is (.inl i) (.int i t)=true:=sJ i t
theorem sR (prog:Program)(w:World)(x:Str)(t:Tok):(mixKind prog w).is (.inr x) (.str x t)=true:=sK x t
inductive V where
 |non|bl (b:Bool)|int (i:Int)|str (x:Str)|byt (b:Array UInt8)|flt (b:UInt64)|ref (a:Addr)|ty (n:String)
 deriving DecidableEq
def RelV:V->Value->Prop
 |.non,u=>u=Value.none
 |.bl b,u=>u=Value.bool b
 |.int i,u=>∃t,u=Value.int i t
 |.str x,u=>∃t,u=Value.str x t
 |.byt b,u=>∃t,u=Value.bytes b t
 |.flt b,u=>∃t,u=Value.float b t
 |.ref a,u=>u=Value.ref a
 |.ty n,u=>u=Value.type n
abbrev Vals:List V->List Value->Prop:=Paired RelV
theorem Vals.length {xs:List V}{us:List Value}(r:Vals xs us):xs.length=us.length:=Paired.length r
theorem Vals.get {xs:List V}{us:List Value}{i:Nat}{x:V}(h:Vals xs us)(e:xs[i]?=some x):∃u,us[i]?=some u/\RelV x u:=by
 induction h generalizing i with
 |nil=>cases e
 |cons r _ ih=>cases i with
  |zero=>cases e;exact⟨_,rfl,r⟩
  |succ i=>exact ih e
theorem Vals.set {x:V}{u:Value}(r:RelV x u){xs:List V}{us:List Value}(i:Nat)(h:Vals xs us):Vals (xs.set i x) (us.set i u):=by
 induction h generalizing i with
 |nil=>exact .nil
 |cons q t ih=>cases i with
  |zero=>exact .cons r t
  |succ i=>exact .cons q (ih i)
theorem Vals.append {xs ys:List V}{us ws:List Value}(h:Vals xs us)(s:Vals ys ws):Vals (xs++ys) (us++ws):=by
 induction h with
 |nil=>exact s
 |cons r _ ih=>exact .cons r ih
theorem Vals.take {xs:List V}{us:List Value}(n:Nat)(h:Vals xs us):Vals (xs.take n) (us.take n):=by
 induction h generalizing n with
 |nil=>rw[take_nil,take_nil];exact .nil
 |cons r _ ih=>cases n with
  |zero=>exact .nil
  |succ n=>exact .cons r (ih n)
theorem Vals.drop {xs:List V}{us:List Value}(n:Nat)(h:Vals xs us):Vals (xs.drop n) (us.drop n):=by
 induction h generalizing n with
 |nil=>rw[drop_nil,drop_nil];exact .nil
 |cons r t ih=>cases n with
  |zero=>exact .cons r t
  |succ n=>exact ih n
def RelO:Option V->Option Value->Prop
 |some v,some u=>RelV v u
 |none,none=>True
 |_,_=>False
def KV {κ:Type}:List (κ×V)->List (κ×Value)->Prop:=Paired λ(p:κ×V) (q:κ×Value)=>p.1=q.1/\RelV p.2 q.2
noncomputable def kV:Key->V
 |.inl i=>.int i
 |.inr x=>.str x
inductive HO where
 |lst (xs:List V)
 |tup (xs:List V)
 |dK (kvs:List (Key×V))|dT (kvs:List (List Key×V))
 |set (S:Int->Bool) (n:Nat)
 |ins (C dx:Addr) (fs:List (Str×V))
 |own (x:Addr)
 |xd (fs:List (Str×V))
 |met (f x:Addr)
 |rng (lo hi:Int)
 |frz (o:Obj) (u:HO)
 |tbl (ps:Array Value)
 |ext (φ:Heap->Prop)
noncomputable abbrev Hp:=Addr->Option HO
noncomputable def upd (H:Hp)(a:Addr)(o:HO):Hp:=λb=>if b=a then some o else H b
theorem aC {H:Hp}{a:Addr}{o:HO}:upd H a o a=some o:=by unfold upd;rw[if_pos rfl]
theorem aE {H:Hp}{a b:Addr}{o:HO}(h:b≠a):upd H a o b=H b:=by unfold upd;rw[if_neg h]
theorem sS {H:Hp}{a:Addr}{o u:HO}:upd (upd H a o) a u=upd H a u:=by funext b;unfold upd;split <;> rfl
theorem fS {H:Hp}{a b:Addr}{o u:HO}(h:H a=some o)(h':H b=some u)(d:o≠u):a≠b:=by intro e;subst e;rw[h] at h';exact d (Option.some.inj h')
theorem aJ {H:Hp}{a b:Addr}{o:HO}(h:H a=some o)(h':H b=none):a≠b:=by intro e;subst e;rw[h] at h';cases h'
section
variable (P:Program)(w:World)
def ObjOk (H:Hp)(h:Heap)(a:Addr):HO->Prop
 |.lst xs=>xs.length<=sizeLine/\∃(its:List Value) (n:Nat),Vals xs its/\h.get? a=some {cls:=.type "list",data:=.seq its.toArray n}
 |.tup xs=>xs.length<=sizeLine/\∃its:List Value,Vals xs its/\IsTup h a its.toArray
 |.dK kvs=>kvs.length<=sizeLine/\(a == sysModules)=false/\∃vs,KV kvs vs/\h.DictOf (mixKind P w) a vs
 |.dT kvs=>kvs.length<=sizeLine/\(a == sysModules)=false/\∃xs:List (List Key×Addr×Value),
   Paired (λ(p:List Key×V) (q:List Key×Addr×Value)=>p.1=q.1/\H q.2.1=some (.tup (p.1.map kV))/\RelV p.2 q.2.2) kvs xs/\
   ∃o es ep,h.get? a=some o/\o.ExactDict/\o.data=.dict es ep/\es.toList=xs.map (entryOfKey (tupleKind (mixKind P w)))/\(xs.map (·.1)).Nodup
 |.set S n=>h.SetOf (intKind P w) a S n
 |.ins C dx fs=>H dx=some (.own a)/\fs.length<=1000/\dx≠a/\h.get? a=some (PySem.W.instObj C dx)/\
   ∃mA,h.Ns1 dx mA/\(∀f,RelO (fs.lookup f) (mA f))/\PySem.Within mA (fs.map (·.1))
 |.own _=>∃o,h.get? a=some o
 |.xd fs=>∃mA,h.Ns1 a mA/\∀f,RelO (fs.lookup f) (mA f)
 |.rng lo hi=>∃t u v,h.get? a=some {cls:=.type "range",data:=.fields #[.int lo t,.int hi u,.int 1 v]}
 |.frz o u=>h.get? a=some o/\ObjOk H h a u
 |.tbl ps=>h.get? a=some {cls:=.none,data:=.fields ps}
 |.met f x=>h.get? a=some (PySem.W.methodObj (.ref f) (.ref x))
 |.ext φ=>φ h/\(∃o,h.get? a=some o)/\∀h1 h2:Heap,φ h1->(∀o,h1.get? a=some o->h2.get? a=some o)->φ h2
def HOk (H:Hp)(h:Heap):Prop:=∀a o,H a=some o->ObjOk P w H h a o
end
section
variable {P:Program}{w:World}{H H':Hp}{h h':Heap}{a:Addr}{o:HO}
theorem ObjOk.lt (x:ObjOk P w H h a o):a < h.objs.size:=by
 cases o with
 |lst xs=>obtain⟨_,_,_,_,e⟩:=x;exact Heap.lt_size e
 |tup xs=>obtain⟨_,_,_,p⟩:=x;exact p.lt
 |dK kvs=>obtain⟨_,_,_,_,o,_,_,e,_⟩:=x;exact Heap.lt_size e
 |dT kvs=>obtain⟨_,_,_,_,o,_,_,e,_⟩:=x;exact Heap.lt_size e
 |set S n=>obtain⟨o,_,_,_,e,_⟩:=x;exact Heap.lt_size e
 |ins C dx fs=>obtain⟨_,_,_,e,_⟩:=x;exact Heap.lt_size e
 |own y=>obtain⟨_,e⟩:=x;exact Heap.lt_size e
 |xd fs=>obtain⟨_,⟨_,_,_,e,_⟩,_⟩:=x;exact Heap.lt_size e
 |rng lo hi=>obtain⟨_,_,_,e⟩:=x;exact Heap.lt_size e
 |frz ob u=>obtain⟨e,_⟩:=x;exact Heap.lt_size e
 |tbl ps=>exact Heap.lt_size (show h.get? a=some _ from x)
 |met f y=>exact Heap.lt_size (show h.get? a=some _ from x)
 |ext φ=>obtain⟨_,⟨_,e⟩,_⟩:=x;exact Heap.lt_size e
theorem Paired.mapP {α β:Type}{F G:α->β->Prop}{l₁:List α}{l₂:List β}(h:Paired F l₁ l₂)(f:∀a b,F a b->G a b):Paired G l₁ l₂:=by
 induction h with
 |nil=>exact .nil
 |cons r _ ih=>exact .cons (f _ _ r) ih
theorem ObjOk.stay (x:ObjOk P w H h a o)(k:∀b u,(b=a\/H b=some (.own a))->h.get? b=some u->h'.get? b=some u)
  (ho:∀b,H b=some (.own a)->H' b=some (.own a)) (ht:∀b xs,H b=some (.tup xs)->H' b=some (.tup xs)):ObjOk P w H' h' a o:=by
 induction o with
 |lst xs=>obtain⟨z,dl,n,r,e⟩:=x;exact⟨z,dl,n,r,k _ _ (.inl rfl) e⟩
 |tup xs=>obtain⟨z,dl,r,ob,e,c⟩:=x;exact⟨z,dl,r,ob,k _ _ (.inl rfl) e,c⟩
 |dK kvs=>obtain⟨z,y,vs,r,ob,es,ep,e,c⟩:=x;exact⟨z,y,vs,r,ob,es,ep,k _ _ (.inl rfl) e,c⟩
 |dT kvs=>obtain⟨z,y,xs,r,ob,es,ep,e,c⟩:=x;exact⟨z,y,xs,Paired.mapP r λp q z=>⟨z.1,ht _ _ z.2.1,z.2.2⟩,ob,es,ep,k _ _ (.inl rfl) e,c⟩
 |set S n=>obtain⟨ob,es,ep,t,e,c⟩:=x;exact⟨ob,es,ep,t,k _ _ (.inl rfl) e,c⟩
 |ins C dx fs=>obtain⟨d,z,ne,e,mA,⟨od,es,ep,e2,c⟩,r⟩:=x;exact⟨ho _ d,z,ne,k _ _ (.inl rfl) e,mA,⟨od,es,ep,k _ _ (.inr d) e2,c⟩,r⟩
 |own y=>obtain⟨ob,e⟩:=x;exact⟨ob,k _ _ (.inl rfl) e⟩
 |xd fs=>obtain⟨mA,⟨od,es,ep,e,c⟩,r⟩:=x;exact⟨mA,⟨od,es,ep,k _ _ (.inl rfl) e,c⟩,r⟩
 |rng lo hi=>obtain⟨t,u,v,e⟩:=x;exact⟨t,u,v,k _ _ (.inl rfl) e⟩
 |frz ob u ih=>obtain⟨e,q⟩:=x;exact⟨k _ _ (.inl rfl) e,ih q⟩
 |tbl ps=>have e:h.get? a=some {cls:=.none,data:=.fields ps}:=x;show h'.get? a=some {cls:=.none,data:=.fields ps};exact k a _ (.inl rfl) e
 |met f y=>have e:h.get? a=some (PySem.W.methodObj (.ref f) (.ref y)):=x;show h'.get? a=some (PySem.W.methodObj (.ref f) (.ref y));exact k a _ (.inl rfl) e
 |ext φ=>obtain⟨p,⟨o,e⟩,st⟩:=x;exact⟨st _ _ p λo q=>k _ _ (.inl rfl) q,⟨o,k _ _ (.inl rfl) e⟩,st⟩
theorem HOk.lt (x:HOk P w H h)(e:H a=some o):a < h.objs.size:=(x a o e).lt
theorem HOk.fresh (x:HOk P w H h)(e:h.objs.size<=a):H a=none:=by
 cases q:H a with
 |none=>rfl
 |some u=>exact absurd (Nat.lt_of_lt_of_le (x.lt q) e) (Nat.lt_irrefl _)
theorem HOk.kept (x:HOk P w H h)(k:∀b u,h.get? b=some u->h'.get? b=some u):HOk P w H h':=λa o e=>
 (x a o e).stay (λb u _ q=>k b u q) (λ_ q=>q) λ_ _ q=>q
theorem HOk.laid (x:HOk P w H h)(k:∀b u,h.get? b=some u->h'.get? b=some u)(hp:h.objs.size<=a)(new:ObjOk P w (upd H a o) h' a o):HOk P w (upd H a o) h':=λb u e=>by
 have hn:=x.fresh hp;by_cases hb:b=a
 .subst hb;rw[aC] at e;cases e;exact new
 .rw[aE hb] at e;exact (x b u e).stay (λc v _ q=>k c v q) (λc q=>by rw[aE (aJ q hn)];exact q) λc xs q=>by rw[aE (aJ q hn)];exact q
end
def Rd (H:Hp)(a:Addr)(u:HO):Prop:=H a=some u\/∃o,H a=some (.frz o u)
theorem Rd.ok {P:Program}{w:World}{H:Hp}{h:Heap}{a:Addr}{u:HO}(r:Rd H a u)(x:HOk P w H h):ObjOk P w H h a u:=by
 rcases r with r|⟨o,r⟩
 .exact x a u r
 .obtain⟨_,q⟩:=x a _ r;exact q
def Mut:Option HO->Prop
 |some (.lst _)=>True
 |some (.dK _)=>True
 |some (.dT _)=>True
 |some (.set _ _)=>True
 |some (.ins _ _ _)=>True
 |some (.ext _)=>True
 |_=>False
section
variable {P:Program}{w:World}{H:Hp}{h h':Heap}{x e:Addr}{o':HO}
theorem HOk.write (ok:HOk P w H h)(mu:Mut (H x))(he:e=x\/H e=some (.own x))(k:∀b u,b≠e->h.get? b=some u->h'.get? b=some u)(heo:∃u,h'.get? e=some u)
  (new:ObjOk P w (upd H x o') h' x o'):HOk P w (upd H x o') h':=λb u q=>by
 have nown:∀c y,H c=some (.own y)->c≠x:=λc y r z=>by subst z;rw[r] at mu;exact mu
 have ntup:∀c xs,H c=some (.tup xs)->c≠x:=λc xs r z=>by subst z;rw[r] at mu;exact mu
 by_cases hb:b=x
 .subst hb;rw[aC] at q;cases q;exact new
 .rw[aE hb] at q;by_cases hbe:b=e
  .have q':H b=some (.own x):=by
    rcases he with z|z
    .exact absurd (hbe.trans z) hb
    .rw[hbe];exact z
   rw[q] at q';cases q';obtain⟨v,hv⟩:=heo;exact⟨v,by rw[hbe];exact hv⟩
  .refine (ok b u q).stay (λc v hc r=>k c v ?_ r) (λc r=>by rw[aE (nown c b r)];exact r) λc xs r=>by rw[aE (ntup c xs r)];exact r
   rcases hc with rfl|hc
   .exact hbe
   .rintro rfl;rcases he with z|z
    .exact nown c b hc z
    .rw[hc] at z;cases z;exact hb rfl
end
structure Un (fs ex:List Addr)(H H':Hp)(h h':Heap):Prop where
 keep:∀b o,h.get? b=some o->H b=none->b∉fs->b∉ex->h'.get? b=some o
 slot:∀b o,h.get? b=some o->H b=none->b∈fs->b∉ex->∃sl,h'.get? b=some {o with slots:=sl}
 free:∀b o,h.get? b=some o->H b=none->b∉ex->H' b=none
 there:∀b o,h.get? b=some o->b∉ex->∃o',h'.get? b=some o'
 tups:∀b xs,H b=some (.tup xs)->H' b=some (.tup xs)
 frzs:∀b o u,H b=some (.frz o u)->H' b=some (.frz o u)
 tbls:∀b ps,H b=some (.tbl ps)->∃more,H' b=some (.tbl (ps++more))
section
variable {fs fs' ex ex':List Addr}{H H1 H2:Hp}{h h1 h2 h':Heap}{a x e:Addr}{o:HO}
theorem Un.any (u:Un fs ex H H1 h h1){b:Addr}{ob:Obj}(q:h.get? b=some ob)(n:H b=none)(hx:b∉ex):∃sl,h1.get? b=some {ob with slots:=sl}:=by
 by_cases hb:b∈fs
 .exact u.slot b ob q n hb hx
 .exact⟨ob.slots,u.keep b ob q n hb hx⟩
theorem Un.kept (k:∀b u,h.get? b=some u->h'.get? b=some u):Un fs ex H H h h':=
 ⟨λb ob q _ _ _=>k b ob q,λb ob q _ _ _=>⟨ob.slots,k b ob q⟩,λ_ _ _ n _=>n,λb ob q _=>⟨ob,k b ob q⟩,λ_ _ q=>q,λ_ _ _ q=>q,λ_ ps q=>⟨#[],by rw[q];simp⟩⟩
theorem Un.refl:Un fs ex H H h h:=Un.kept λ_ _ q=>q
theorem Un.laid (k:∀b u,h.get? b=some u->h'.get? b=some u)(hp:h.objs.size<=a)(hn:H a=none):Un fs ex H (upd H a o) h h' where
 keep:=λb u q _ _ _=>k b u q
 slot:=λb u q _ _ _=>⟨u.slots,k b u q⟩
 free:=λb u q n _=>by rw[aE (Nat.ne_of_lt (Nat.lt_of_lt_of_le (Heap.lt_size q) hp))];exact n
 there:=λb u q _=>⟨u,k b u q⟩
 tups:=λb xs q=>by rw[aE (aJ q hn)];exact q
 frzs:=λb u xs q=>by rw[aE (aJ q hn)];exact q
 tbls:=λb ps q=>⟨#[],by rw[aE (aJ q hn),q];simp⟩
theorem Un.write (mu:Mut (H x))(he:e=x\/H e=some (.own x))(k:∀b u,b≠e->h.get? b=some u->h'.get? b=some u)(heo:∃u,h'.get? e=some u):Un fs ex H (upd H x o) h h':=by
 have hx:∀b,H b=none->b≠x:=λb n z=>by subst z;rw[n] at mu;exact mu
 have hb:∀b,H b=none->b≠e:=λb n z=>by
  subst z;rcases he with r|r
  .exact hx b n r
  .rw[n] at r;cases r
 have hm:∀b u,H b=some u->¬ Mut (some u)->b≠x:=λb u q nm z=>by subst z;rw[q] at mu;exact nm mu
 refine⟨λb u q n _ _=>k b u (hb b n) q,λb u q n _ _=>⟨u.slots,k b u (hb b n) q⟩,λb u q n _=>by rw[aE (hx b n)];exact n,λb u q _=>?_,
  λb xs q=>by rw[aE (hm b _ q λz=>z)];exact q,λb u xs q=>by rw[aE (hm b _ q λz=>z)];exact q,λb ps q=>⟨#[],by rw[aE (hm b _ q λz=>z),q];simp⟩⟩
 by_cases dl:b=e
 .subst dl;exact heo
 .exact⟨u,k b u dl q⟩
end
noncomputable def trk (h:Heap)(H:Hp):List Addr:=(List.range h.objs.size).filter λa=>(H a).isSome
noncomputable def hidT (h:Heap)(H:Hp):Heap:=PySem.W.hideAll h (trk h H)
theorem sU (h:Heap)(H:Hp):(hidT h H).objs.size=h.objs.size:=PySem.W.hideAll_size _ _
theorem sW {h:Heap}{H:Hp}{b:Addr}{o:Obj}(e:h.get? b=some o)(n:H b=none):(hidT h H).get? b=some o:=
 PySem.W.hideAll_get _ e λhm=>by have q:(H b).isSome=true:=(mem_filter.mp hm).2;rw[n] at q;simp at q
theorem sX {h:Heap}{H:Hp}{b:Addr}{o:Obj}(e:(hidT h H).get? b=some o):h.get? b=some o/\H b=none:=by
 have e':h.get? b=some o:=PySem.W.of_hideAll (trk h H) e;refine⟨e',?_⟩;cases q:H b with
 |none=>rfl
 |some x=>have hm:b∈trk h H:=mem_filter.mpr ⟨mem_range.mpr (Heap.lt_size e'),by simp[q]⟩;have z:(hidT h H).get? b=none:=PySem.W.hideAll_none (trk h H) hm;rw[z] at e;cases e
noncomputable def allNews (g h:Heap)(L:Addr):List (Addr×Obj):=(List.range h.objs.size).filterMap λa=>if a=L\/(g.get? a).isSome=true then none else (h.get? a).map λo=>(a,o)
noncomputable def rest (g h:Heap)(L d:Addr):List (Addr×Obj):=(allNews g h L).filter λp=>decide (p.1≠d)
structure Mod (K:W.Frag)(mg:Str->Option Value)(base:Heap):Prop where
 kin:K.In base
 glob:base.Ns mainGlobals mg
 blt:∃mb,base.Ns builtinsNs mb/\∀x:Str,x ≠ "__name__" -> mb x=bootBuiltins x
 nolimit:base.NoLimit
structure Cx where
 prog:Program
 w:World
 K:W.Frag
 mg:Str->Option Value
 base:Heap
 A:Around
 N:List Str
 s₀:Shared
 H₀:Hp
 env:Env
 outer:List Env
 stack:List Env
 ex:List Addr
 fn:Str->Bool
 calm:Bool
 pn:List (Addr×Obj)
 xe:Value->Shared->Prop
noncomputable def frs (l:List Env):List Addr:=l.filterMap (·.frame)
noncomputable abbrev Cx.fs (X:Cx):List Addr:=frs X.outer
def Vis (sc:Scope)(x:Str):Prop:=sc.names.lookup x=some .local\/sc.names.lookup x=some .cell\/sc.names.lookup x=some .free
def Loc (sc:Scope)(x:Str):Prop:=sc.names.lookup x=some .local\/sc.names.lookup x=some .cell
def Look (env:Env)(h:Heap)(m:Str->Option Value)(x:Str)(u:Value):Prop:=
 (env.kindOf x=some .local/\m x=some u)\/((env.kindOf x=some .cell\/env.kindOf x=some .free)/\∃c,env.cells.lookup x=some c/\h.IsCell c (some u))
structure Cx.Ok (X:Cx):Prop where
 mod:Mod X.K X.mg X.base
 kind:X.env.scope.kind=.function
 glob:X.env.globals=mainGlobals
 blt:X.env.builtins=builtinsNs
 above:X.s₀.heap.objs.size<=X.env.locals
 inj:∀x y c,X.env.cells.lookup x=some c->X.env.cells.lookup y=some c->x=y
 has:∀x,(X.env.kindOf x=some .cell\/X.env.kindOf x=some .free)->∃c,X.env.cells.lookup x=some c
 cab:∀x c,X.fn x=true->X.env.cells.lookup x=some c->X.s₀.heap.objs.size<=c
 hd:X.calm=true->X.A.handled=none
 frames:X.A.frames=some X.stack
 stk:X.stack=X.outer\/(X.stack=X.env::X.outer/\X.env.frame=some X.env.locals)
 exf:∀b∈X.ex,b≠X.env.locals/\∀x c,X.env.cells.lookup x=some c->c≠b
 bs:∀b o,X.base.get? b=some o->X.s₀.heap.get? b=some o/\X.H₀ b=none
 bsz:X.base.objs.size<=X.s₀.heap.objs.size
 noex:∀b o,X.base.get? b=some o->b∉X.ex
 exfs:∀b∈X.ex,b∉X.fs
 funs:X.s₀.heap.FunFrames X.base X.outer
 frf:∀b∈X.fs,X.H₀ b=none
structure Inv (X:Cx)(pins:List (Addr×Obj))(Z:List (Option V))(H:Hp)(s:Shared):Prop where
 ok:X.Ok
 os:s.os=X.s₀.os
 bare:AllBare s.gens
 base:Un X.fs X.ex X.H₀ H X.s₀.heap s.heap
 loc:∃m,s.heap.Ns X.env.locals m/\∀(i:Nat) (x:Str) (v:V),X.N[i]?=some x->Z[i]?=some (some v)->Vis X.env.scope x->∃u,RelV v u/\Look X.env s.heap m x u
 cell:∀x c,X.env.cells.lookup x=some c->∃v,s.heap.IsCell c v
 free:H X.env.locals=none
 freeC:∀x c,X.env.cells.lookup x=some c->H c=none
 pin:∀p∈X.pn++pins,s.heap.get? p.1=some p.2/\H p.1=none/\p.1≠X.env.locals/\p.1∉X.fs/\∀v,p.2.data≠.cell v
 hok:HOk X.prog X.w H s.heap
 len:Z.length=X.N.length
section
variable {X:Cx}{pins:List (Addr×Obj)}{Z:List (Option V)}{H H':Hp}{s:Shared}{h':Heap}
theorem Cx.Ok.nofr (ok:X.Ok){b:Addr}{o:Obj}(e:X.base.get? b=some o):b∉X.fs:=λhb=>by have:=(ok.funs.mem hb).1;rw[e] at this;cases this
theorem Inv.bs (I:Inv X pins Z H s):∀b o,X.base.get? b=some o->s.heap.get? b=some o/\H b=none:=λb o e=>
 ⟨I.base.keep b o (I.ok.bs b o e).1 (I.ok.bs b o e).2 (I.ok.nofr e) (I.ok.noex b o e),I.base.free b o (I.ok.bs b o e).1 (I.ok.bs b o e).2 (I.ok.noex b o e)⟩
theorem Inv.bk (I:Inv X pins Z H s):∀b o,X.base.get? b=some o->s.heap.get? b=some o:=λb o e=>(I.bs b o e).1
theorem Inv.mod (I:Inv X pins Z H s):Mod X.K X.mg X.base:=I.ok.mod
theorem Inv.kIn (I:Inv X pins Z H s):X.K.In s.heap:=I.ok.mod.kin.keeps I.bk
theorem Inv.lt (I:Inv X pins Z H s):X.env.locals < s.heap.objs.size:=let ⟨_,hn,_⟩:=I.loc;hn.lt
theorem Inv.sz (I:Inv X pins Z H s):X.s₀.heap.objs.size<=s.heap.objs.size:=Nat.le_trans I.ok.above (Nat.le_of_lt I.lt)
theorem Inv.nofs (I:Inv X pins Z H s){a:Addr}(h:s.heap.objs.size<=a):a∉X.fs:=λhb=>by obtain⟨_,o,ho,_⟩:=I.ok.funs.mem hb;exact absurd (Nat.lt_of_lt_of_le (Heap.lt_size ho) (Nat.le_trans I.sz h)) (Nat.lt_irrefl _)
theorem Inv.cne (I:Inv X pins Z H s):∀x c,X.env.cells.lookup x=some c->c≠X.env.locals:=λx c e z=>by obtain⟨v,o,ho,hd⟩:=I.cell x c e;obtain⟨m,⟨o',es,ep,ho',hd',_⟩,_⟩:=I.loc;rw[z,ho'] at ho;cases ho;rw[hd'] at hd;cases hd
theorem Inv.funs (I:Inv X pins Z H s):s.heap.FunFrames X.base X.outer:=by
 have dl:∀(l:List Env),(∀b∈frs l,b∈X.fs)->X.s₀.heap.FunFrames X.base l->s.heap.FunFrames X.base l:=by
  intro l;induction l with
  |nil=>intro _ _;trivial
  |cons env r ih=>intro hs hl;obtain⟨hk,⟨L,o,hf,hn,ho,hd⟩,hr⟩:=hl;have hL:L∈X.fs:=hs L (by unfold frs;rw[filterMap_cons,hf];exact mem_cons_self);obtain⟨sl,e⟩:=I.base.slot L o ho (I.ok.frf L hL) hL λz=>I.ok.exfs L z hL;exact⟨hk,⟨L,_,hf,hn,e,hd⟩,ih (λb hb=>hs b (by unfold frs;rw[filterMap_cons,hf];exact mem_cons_of_mem _ hb)) hr⟩
 exact dl X.outer (λ_ hb=>hb) I.ok.funs
theorem Inv.stack (I:Inv X pins Z H s):s.heap.FunFrames X.base X.stack:=by
 rcases I.ok.stk with e|⟨e,hf⟩
 .rw[e];exact I.funs
 .rw[e];obtain⟨m,hn,_⟩:=I.loc;refine .cons (by rw[I.ok.kind];decide) hf hn ?_ I.funs;exact Heap.get?_none_of_le (Nat.le_trans I.ok.bsz I.ok.above)
theorem Inv.stkSub (I:Inv X pins Z H s):∀b∈frs X.stack,b∈X.env.locals::X.fs:=λb hb=>by
 rcases I.ok.stk with e|⟨e,hf⟩
 .rw[e] at hb;exact mem_cons_of_mem _ hb
 .rw[e] at hb;unfold frs at hb;rw[filterMap_cons,hf] at hb;exact hb
theorem Inv.stkFree (I:Inv X pins Z H s):∀b∈frs X.stack,H b=none:=λb hb=>by
 rcases mem_cons.mp (I.stkSub b hb) with e|hb
 .rw[e];exact I.free
 .obtain⟨_,o,ho,_⟩:=I.ok.funs.mem hb;exact I.base.free b o ho (I.ok.frf b hb) λz=>I.ok.exfs b z hb
theorem Inv.step {g':Array GenState}{t':Nat}{d':Drawn}{ch:List Addr}(I:Inv X pins Z H s)
  (hch:∀b∈ch,(b∈X.ex\/X.s₀.heap.objs.size<=b)/\b≠X.env.locals/\(∀x c,X.env.cells.lookup x=some c->c≠b)/\∀p∈X.pn++pins,p.1≠b)
  (keep:∀b o,b≠X.env.locals->b∉X.fs->b∉ch->s.heap.get? b=some o->H b=none->h'.get? b=some o)
  (slot:∀b o,b≠X.env.locals->b∈X.fs->b∉ch->s.heap.get? b=some o->H b=none->∃sl,h'.get? b=some {o with slots:=sl}) (free:∀b o,b∉ch->s.heap.get? b=some o->H b=none->H' b=none)
  (there:∀b o,b∉ch->s.heap.get? b=some o->∃o',h'.get? b=some o')
  (tups:∀b xs,H b=some (.tup xs)->H' b=some (.tup xs)) (frzs:∀b o u,H b=some (.frz o u)->H' b=some (.frz o u)) (tbls:∀b ps,H b=some (.tbl ps)->∃more,H' b=some (.tbl (ps++more)))
  (ns:∀m,s.heap.Ns X.env.locals m->h'.Ns X.env.locals m) (hok:HOk X.prog X.w H' h') (hg:AllBare g') :
  Inv X pins Z H' { s with heap:=h',gens:=g',drawn:=d',toks:=t' }:=by
 have BT:∀b o,X.s₀.heap.get? b=some o->b≠X.env.locals:=λb o e=>Nat.ne_of_lt (Nat.lt_of_lt_of_le (Heap.lt_size e) I.ok.above);have mt:∀b o,X.s₀.heap.get? b=some o->b∉X.ex->b∉ch:=λb o e hx hb=>by
  rcases (hch b hb).1 with z|z
  .exact hx z
  .exact absurd (Nat.lt_of_lt_of_le (Heap.lt_size e) z) (Nat.lt_irrefl _)
 have dl:∀x c,X.env.cells.lookup x=some c->∀v,s.heap.IsCell c v->h'.IsCell c v:=λx c e v ⟨o,ho,hd⟩=>by
  have ld:c∉ch:=λz=>(hch c z).2.2.1 x c e rfl;by_cases hc:c∈X.fs
  .obtain⟨sl,q⟩:=slot c o (I.cne x c e) hc ld ho (I.freeC x c e);exact⟨_,q,hd⟩
  .exact⟨o,keep c o (I.cne x c e) hc ld ho (I.freeC x c e),hd⟩
 refine⟨I.ok,I.os,hg,⟨λb o e n hb hx=>?_,λb o e n hb hx=>?_,λb o e n hx=>?_,λb o e hx=>?_,λb xs e=>tups b xs (I.base.tups b xs e),λb o xs e=>frzs b o xs (I.base.frzs b o xs e),λb ps e=>?_⟩,?_,λx c e=>?_,?_,λx c e=>?_,λp hp=>?_,hok,I.len⟩
 .exact keep b o (BT b o e) hb (mt b o e hx) (I.base.keep b o e n hb hx) (I.base.free b o e n hx)
 .obtain⟨sl,e1⟩:=I.base.slot b o e n hb hx;obtain⟨Cl,e2⟩:=slot b _ (BT b o e) hb (mt b o e hx) e1 (I.base.free b o e n hx);exact⟨Cl,e2⟩
 .obtain⟨o',e1⟩:=I.base.there b o e hx;exact free b o' (mt b o e hx) e1 (I.base.free b o e n hx)
 .obtain⟨o',e1⟩:=I.base.there b o e hx;exact there b o' (mt b o e hx) e1
 .obtain⟨m1,e1⟩:=I.base.tbls b ps e;obtain⟨m2,e2⟩:=tbls b _ e1;exact⟨m1++m2,by rw[e2,Array.append_assoc]⟩
 .obtain⟨m,hn,hl⟩:=I.loc;refine⟨m,ns m hn,λi x v e1 e2 e3=>?_⟩;obtain⟨u,r,l⟩:=hl i x v e1 e2 e3;refine⟨u,r,?_⟩;rcases l with l|⟨k,c,e,z⟩
  .exact .inl l
  .exact .inr ⟨k,c,e,dl x c e _ z⟩
 .obtain⟨v,z⟩:=I.cell x c e;exact⟨v,dl x c e v z⟩
 .obtain⟨m,⟨o,_,_,ho,_⟩,_⟩:=I.loc;exact free _ o (λz=>(hch _ z).2.1 rfl) ho I.free
 .obtain⟨v,o,ho,hd⟩:=I.cell x c e;exact free c o (λz=>(hch c z).2.2.1 x c e rfl) ho (I.freeC x c e)
 .obtain⟨e,n,ne,nf,d⟩:=I.pin p hp;have ld:p.1∉ch:=λz=>(hch p.1 z).2.2.2 p hp rfl;exact⟨keep p.1 p.2 ne nf ld e n,free p.1 p.2 ld e n,ne,nf,d⟩
theorem Inv.un {t':Nat}(I:Inv X pins Z H s)(u:Un X.fs [] H H' s.heap h')(hok:HOk X.prog X.w H' h'):Inv X pins Z H' { s with heap:=h',toks:=t' }:=by
 obtain⟨m,⟨o,es,ep,ho,r⟩,_⟩:=id I.loc;obtain⟨sl,hL⟩:=u.any ho I.free (by simp);exact I.step (g':=s.gens) (d':=s.drawn) (ch:=[]) (λ_ z=>nomatch z) (λb o _ hb _ e n=>u.keep b o e n hb (by simp)) (λb o _ hb _ e n=>u.slot b o e n hb (by simp)) (λb o _ e n=>u.free b o e n (by simp)) (λb o _ e=>u.there b o e (by simp)) u.tups u.frzs u.tbls (λm' hm=>by obtain⟨o',ld,mt,dl,r'⟩:=hm;rw[ho] at dl;cases dl;exact⟨_,ld,mt,hL,r'⟩) hok I.bare
theorem Inv.call {g':Array GenState}{t':Nat}{d':Drawn}{ch:List Addr}(I:Inv X pins Z H s)(u:Un (frs X.stack) ch H H' s.heap h')(hok:HOk X.prog X.w H' h')(hg:AllBare g')
  (hch:∀b∈ch,(b∈X.ex\/X.s₀.heap.objs.size<=b)/\b≠X.env.locals/\(∀x c,X.env.cells.lookup x=some c->c≠b)/\∀p∈X.pn++pins,p.1≠b) :
  Inv X pins Z H' { s with heap:=h',gens:=g',drawn:=d',toks:=t' }:=by
 obtain⟨m,⟨o,es,ep,ho,r⟩,_⟩:=id I.loc;obtain⟨sl,hL⟩:=u.any ho I.free λz=>(hch _ z).2.1 rfl;exact I.step (ch:=ch) hch (λb o hL hb hc e n=>u.keep b o e n (λz=>(mem_cons.mp (I.stkSub b z)).elim hL hb) hc) (λb o _ _ hc e n=>u.any e n hc) (λb o hc e n=>u.free b o e n hc) (λb o hc e=>u.there b o e hc) u.tups u.frzs u.tbls (λm' hm=>by obtain⟨o',ld,mt,dl,r'⟩:=hm;rw[ho] at dl;cases dl;exact⟨_,ld,mt,hL,r'⟩) hok hg
theorem Inv.turned {t':Nat}{it:Addr}(I:Inv X pins Z H s)(k:∀b o,b≠it->s.heap.get? b=some o->h'.get? b=some o)(hn:H it=none)(hL:it≠X.env.locals)
  (h1:it∈X.ex\/X.s₀.heap.objs.size<=it) (h2:∀x c,X.env.cells.lookup x=some c->c≠it) (h3:∀p∈X.pn++pins,p.1≠it):Inv X pins Z H {s with heap:=h',toks:=t' }:=by
 have dl:∀b u,H b=some u->b≠it:=λb u e z=>by rw[z,hn] at e;cases e
 refine I.step (g':=s.gens) (d':=s.drawn) (ch:=[it]) (λb hb=>?_) (λb o _ _ hc e _=>k b o (λz=>hc (by simp[z])) e) (λb o _ _ hc e _=>⟨o.slots,k b o (λz=>hc (by simp[z])) e⟩) (λ_ _ _ _ n=>n)
  (λb o hc e=>⟨o,k b o (λz=>hc (by simp[z])) e⟩) (λ_ _ e=>e) (λ_ _ _ e=>e) (λb ps e=>⟨#[],by rw[e];simp⟩) (λm hm=>?_) (λb u e=>?_) I.bare
 .have e:b=it:=by simpa using hb
  subst e;exact⟨h1,hL,h2,h3⟩
 .obtain⟨o,es,ep,ho,r⟩:=hm;exact⟨o,es,ep,k _ o (Ne.symm hL) ho,r⟩
 .refine (I.hok b u e).stay (λc v hc q=>k c v ?_ q) (λ_ q=>q) λ_ _ q=>q;rcases hc with z|z
  .rw[z];exact dl b u e
  .exact dl c _ z
theorem Inv.tok (I:Inv X pins Z H s)(t:Nat):Inv X pins Z H {s with toks:=t}:=I.un (h':=s.heap) (t':=t) Un.refl I.hok
theorem Inv.kept {t':Nat}(I:Inv X pins Z H s)(k:∀b u,s.heap.get? b=some u->h'.get? b=some u):Inv X pins Z H {s with heap:=h',toks:=t' }:=I.un (Un.kept k) (I.hok.kept k)
theorem Inv.laid {a:Addr}{o:HO}{t':Nat}(I:Inv X pins Z H s)(k:∀b u,s.heap.get? b=some u->h'.get? b=some u)(hp:s.heap.objs.size<=a)(new:ObjOk X.prog X.w (upd H a o) h' a o) :
  Inv X pins Z (upd H a o) {s with heap:=h',toks:=t' }:=I.un (Un.laid k hp (I.hok.fresh hp)) (I.hok.laid k hp new)
theorem Inv.write {x e:Addr}{o:HO}{t':Nat}(I:Inv X pins Z H s)(mu:Mut (H x))(he:e=x\/H e=some (.own x))(k:∀b u,b≠e->s.heap.get? b=some u->h'.get? b=some u)(heo:∃u,h'.get? e=some u)
  (new:ObjOk X.prog X.w (upd H x o) h' x o):Inv X pins Z (upd H x o) {s with heap:=h',toks:=t' }:=I.un (Un.write mu he k heo) (I.hok.write mu he k heo new)
theorem Inv.pins_of {pins':List (Addr×Obj)}(I:Inv X pins Z H s)(h:∀p∈pins',s.heap.get? p.1=some p.2/\H p.1=none/\p.1≠X.env.locals/\p.1∉X.fs/\∀v,p.2.data≠.cell v):Inv X pins' Z H s:=
 ⟨I.ok,I.os,I.bare,I.base,I.loc,I.cell,I.free,I.freeC,λp hp=>(mem_append.mp hp).elim (λz=>I.pin p (mem_append_left _ z)) (h p),I.hok,I.len⟩
theorem jD {N:List Str}(hN:N.Nodup){i j:Nat}{x:Str}(a:N[i]?=some x)(b:N[j]?=some x):i=j:=by obtain⟨h1,e1⟩:=List.getElem?_eq_some_iff.mp a;obtain⟨h2,e2⟩:=List.getElem?_eq_some_iff.mp b;exact (List.getElem_inj hN).mp (e1.trans e2.symm)
theorem jE {M:Model}{A:Around}{E:Value->Shared->Prop}{i:Nat}{x:Str}{v:V}{u:Value}{Q:Unit->Shared->Prop}(I:Inv X pins Z H s)(hN:X.N.Nodup)(hi:X.N[i]?=some x)(hx:Loc X.env.scope x)(r:RelV v u)
  (h:∀s',Inv X pins (Z.set i (some v)) H s'->(∃a,Heap.SameBut a s.heap s'.heap/\(a=X.env.locals\/X.env.cells.lookup x=some a))->Q () s') (hf:X.fn x=true\/X.env.scope.names.lookup x=some .local:=by first|exact .inl rfl|exact .inr rfl|assumption):wpAny M A (storeName X.env x u) Q E s:=by
 obtain⟨m,hn,hl⟩:=id I.loc;have Cl:(X.env.scope.kind == .class || (X.env.scope.kind == .module && X.env.locals != X.env.globals))=false:=by rw[I.ok.kind];rfl
 have hiσ:i < Z.length:=by rw[I.len];exact (List.getElem?_eq_some_iff.mp hi).1
 have EZ:=I.cne;have dl:∀{a:Addr}{h':Heap},(∃o,s.heap.get? a=some o/\H a=none)->Heap.SameBut a s.heap h'->HOk X.prog X.w H h':=λ{a h'} ha hs b ob e=>by
  obtain⟨_,_,ld⟩:=ha;refine (I.hok b ob e).stay (λc w' hc q=>(hs.2 c ?_).trans q) (λ_ q=>q) λ_ _ q=>q;rintro rfl;rcases hc with rfl|hc
  .rw[ld] at e;cases e
  .rw[ld] at hc;cases hc
 rcases hx with hk|hk
 .refine wpAny_storeName_local hk hn (λh' Fb hs=>?_) Cl;obtain⟨oL,_,_,Fa,_⟩:=id hn;refine h _ ⟨I.ok,I.os,I.bare,⟨λb o e n hb hx=>?_,λb o e n hb hx=>?_,I.base.free,λb o e hx=>?_,I.base.tups,I.base.frzs,I.base.tbls⟩,⟨_,Fb,λj y v' e1 e2 e3=>?_⟩,λy c e=>?_,I.free,I.freeC,λp hp=>?_,dl ⟨oL,Fa,I.free⟩ hs,by simpa using I.len⟩ ⟨_,hs,.inl rfl⟩
  .exact (hs.2 b (Nat.ne_of_lt (Nat.lt_of_lt_of_le (Heap.lt_size e) I.ok.above))).trans (I.base.keep b o e n hb hx)
  .obtain⟨sl,e1⟩:=I.base.slot b o e n hb hx;exact⟨sl,(hs.2 b (Nat.ne_of_lt (Nat.lt_of_lt_of_le (Heap.lt_size e) I.ok.above))).trans e1⟩
  .obtain⟨o',e1⟩:=I.base.there b o e hx;exact⟨o',(hs.2 b (Nat.ne_of_lt (Nat.lt_of_lt_of_le (Heap.lt_size e) I.ok.above))).trans e1⟩
  .by_cases hj:j=i
   .subst hj;rw[hi] at e1;cases e1;rw[List.getElem?_set_self hiσ] at e2;cases e2;exact⟨u,r,.inl ⟨hk,by simp⟩⟩
   .rw[List.getElem?_set_ne (Ne.symm hj)] at e2;obtain⟨u',r',q⟩:=hl j y v' e1 e2 e3;refine⟨u',r',?_⟩;rcases q with⟨k,e⟩|⟨k,c,e,z⟩
    .refine .inl ⟨k,?_⟩;have:y≠x:=λe=>hj (jD hN e1 (e▸hi));simp[this,e]
    .exact .inr ⟨k,c,e,z.sameBut hs (EZ y c e)⟩
  .obtain⟨w',z⟩:=I.cell y c e;exact⟨w',z.sameBut hs (EZ y c e)⟩
  .obtain⟨e,n,ne,nf,d⟩:=I.pin p hp;exact⟨(hs.2 p.1 ne).trans e,n,ne,nf,d⟩
 .have BT:X.fn x=true:=by
   rcases hf with z|z
   .exact z
   .rw[z] at hk;cases hk
  obtain⟨c,hc⟩:=I.ok.has x (.inl hk);obtain⟨w',z⟩:=I.cell x c hc;refine wpAny_storeName_cell I.ok.kind hk hc z (λh' EY hs=>?_);obtain⟨oc,EW,mt⟩:=id z;refine h {s with heap:=h' } ⟨I.ok,I.os,I.bare,⟨λb o e n hb hx=>?_,λb o e n hb hx=>?_,I.base.free,λb o e hx=>?_,I.base.tups,I.base.frzs,I.base.tbls⟩,⟨m,hn.sameBut hs (Ne.symm (EZ x c hc)),λj y v' e1 e2 e3=>?_⟩,λy c' e=>?_,I.free,I.freeC,λp hp=>?_,dl ⟨oc,EW,I.freeC x c hc⟩ hs,by simpa using I.len⟩ ⟨c,hs,.inr hc⟩
  .exact (hs.2 b (Nat.ne_of_lt (Nat.lt_of_lt_of_le (Heap.lt_size e) (I.ok.cab x c BT hc)))).trans (I.base.keep b o e n hb hx)
  .obtain⟨sl,e1⟩:=I.base.slot b o e n hb hx;exact⟨sl,(hs.2 b (Nat.ne_of_lt (Nat.lt_of_lt_of_le (Heap.lt_size e) (I.ok.cab x c BT hc)))).trans e1⟩
  .obtain⟨o',e1⟩:=I.base.there b o e hx;exact⟨o',(hs.2 b (Nat.ne_of_lt (Nat.lt_of_lt_of_le (Heap.lt_size e) (I.ok.cab x c BT hc)))).trans e1⟩
  .by_cases hj:j=i
   .subst hj;rw[hi] at e1;cases e1;rw[List.getElem?_set_self hiσ] at e2;cases e2;exact⟨u,r,.inr ⟨.inl hk,c,hc,EY⟩⟩
   .rw[List.getElem?_set_ne (Ne.symm hj)] at e2;obtain⟨u',r',q⟩:=hl j y v' e1 e2 e3;refine⟨u',r',?_⟩;rcases q with q|⟨k,c',e,z'⟩
    .exact .inl q
    .refine .inr ⟨k,c',e,z'.sameBut hs ?_⟩;rintro rfl;exact hj (jD hN e1 (I.ok.inj _ _ _ e hc▸hi))
  .by_cases EX:c'=c
   .subst EX;exact⟨_,EY⟩
   .obtain⟨w2,z2⟩:=I.cell y c' e;exact⟨w2,z2.sameBut hs EX⟩
  .obtain⟨e,n,ne,nf,d⟩:=I.pin p hp;refine⟨(hs.2 p.1 ?_).trans e,n,ne,nf,d⟩;intro q;rw[q,EW] at e;have q':oc=p.2:=Option.some.inj e;exact d w' (by rw[<- q'];exact mt)
theorem jF {M:Model}{A:Around}{E:Value->Shared->Prop}{i:Nat}{x:Str}{v:V}{u:Value}{Q:Unit->Shared->Prop}(I:Inv X pins Z H s)(hN:X.N.Nodup)(hi:X.N[i]?=some x)(hx:Loc X.env.scope x)(r:RelV v u)
  (h:∀s',Inv X pins (Z.set i (some v)) H s'->Q () s') (hf:X.fn x=true\/X.env.scope.names.lookup x=some .local:=by first|exact .inl rfl|exact .inr rfl|assumption):wpAny M A (storeName X.env x u) Q E s:=
 jE I hN hi hx r (λs' I' _=>h s' I') hf
end
noncomputable abbrev XK:=Value->Option Addr->Hp->Prop
noncomputable abbrev St:=List (Option V)
noncomputable abbrev VK:=V->Hp->Prop
noncomputable abbrev TE:=St->Hp->VK->Prop
noncomputable abbrev TT:=St->Hp->(Bool->Hp->Prop)->Prop
noncomputable abbrev TA:=St->Hp->(List V->Hp->Prop)->Prop
structure Ends where
 nx:St->Hp->Prop
 rt:VK
 bk:St->Hp->Prop:=λ_ _=>False
 ct:St->Hp->Prop:=λ_ _=>False
noncomputable abbrev TS:=Ends->St->Hp->Prop
def EP (X:Cx)(pins:List (Addr×Obj))(Z:St)(Q:VK)(u:Value)(s':Shared):Prop:=∃v H',Inv X pins Z H' s'/\RelV v u/\Q v H'
def TP (X:Cx)(pins:List (Addr×Obj))(Z:St)(Q:Bool->Hp->Prop)(b:Bool)(s':Shared):Prop:=∃H',Inv X pins Z H' s'/\Q b H'
def AP (X:Cx)(pins:List (Addr×Obj))(Z:St)(Q:List V->Hp->Prop)(us:List Value)(s':Shared):Prop:=∃vs H',Inv X pins Z H' s'/\Vals vs us/\Q vs H'
def SP (X:Cx)(pins:List (Addr×Obj))(D:Ends)(f:Flow)(s':Shared):Prop:=
 match f with
 |.next=>∃Z' H',Inv X pins Z' H' s'/\D.nx Z' H'
 |.brk=>∃Z' H',Inv X pins Z' H' s'/\D.bk Z' H'
 |.cont=>∃Z' H',Inv X pins Z' H' s'/\D.ct Z' H'
 |.ret u=>∃v Z' H',Inv X pins Z' H' s'/\RelV v u/\D.rt v H'
def PE (X:Cx)(e:Expr)(t:TE):Prop:=
 ∀(pins:List (Addr×Obj)) (s:Shared) (Z:St) (H:Hp) (Q:VK),Inv X pins Z H s->t Z H Q->wpAny (model X.prog X.w) X.A (eval e X.env) (EP X pins Z Q) X.xe s
def PT (X:Cx)(e:Expr)(t:TT):Prop:=
 ∀(pins:List (Addr×Obj)) (s:Shared) (Z:St) (H:Hp) (Q:Bool->Hp->Prop),Inv X pins Z H s->t Z H Q->wpAny (model X.prog X.w) X.A (isTrue e X.env (eval e X.env)) (TP X pins Z Q) X.xe s
def PW (X:Cx)(e:Expr)(t:TT):Prop:=
 ∀(whole:Sem Value) (pins:List (Addr×Obj)) (s:Shared) (Z:St) (H:Hp) (Q:Bool->Hp->Prop),Inv X pins Z H s->t Z H Q->wpAny (model X.prog X.w) X.A (isTrue e X.env whole) (TP X pins Z Q) X.xe s
theorem PW.pt {X:Cx}{e:Expr}{t:TT}(h:PW X e t):PT X e t:=h _
def PA (X:Cx)(es:List Expr)(t:TA):Prop:=
 ∀(pos:Pos) (pins:List (Addr×Obj)) (s:Shared) (Z:St) (H:Hp) (Q:List V->Hp->Prop),Inv X pins Z H s->t Z H Q->wpAny (model X.prog X.w) X.A (spliced (backTo pos (starEach es X.env))) (AP X pins Z Q) X.xe s
def PS (X:Cx)(st:Stmt)(t:TS):Prop:=
 ∀(pins:List (Addr×Obj)) (s:Shared) (Z:St) (H:Hp) (D:Ends),Inv X pins Z H s->t D Z H->wpAny (model X.prog X.w) X.A (exec st X.env) (SP X pins D) X.xe s
def PSs (X:Cx)(st:List Stmt)(t:TS):Prop:=
 ∀(pins:List (Addr×Obj)) (s:Shared) (Z:St) (H:Hp) (D:Ends),Inv X pins Z H s->t D Z H->wpAny (model X.prog X.w) X.A (execs st X.env) (SP X pins D) X.xe s
theorem thn {α:Type}{t:Sem α}{Q Q':α->Shared->Prop}{M:Model}{A:Around}{E:Value->Shared->Prop}{s:Shared}(h:wpAny M A t Q E s)(hQ:∀a s,Q a s->Q' a s):wpAny M A t Q' E s:=wpAny_mono h hQ λ_ _ x=>x
section
variable {X:Cx}
theorem bin {a b:Expr}{ta tb:TE}(ha:PE X a ta)(hb:PE X b tb){pins:List (Addr×Obj)}{s:Shared}{Z:St}{H:Hp}{R:V->V->Hp->Prop}(I:Inv X pins Z H s)(h:ta Z H λx H1=>tb Z H1 λy H2=>R x y H2)
  {α:Type}{Q:α->Shared->Prop}{f:Value->Value->Sem α}
  (hf:∀v u s2 x y H2,Inv X pins Z H2 s2->RelV x v->RelV y u->R x y H2->wpAny (model X.prog X.w) X.A (f v u) Q X.xe s2) :
  wpAny (model X.prog X.w) X.A (eval a X.env) (λv s₁=>wpAny (model X.prog X.w) X.A (eval b X.env) (λu s₂=>wpAny (model X.prog X.w) X.A (f v u) Q X.xe s₂) X.xe s₁) X.xe s:=by
 refine thn (ha pins s Z H _ I h) λv s1 W'=>?_;obtain⟨x,H1,I1,r1,q1⟩:=W';refine thn (hb pins s1 Z H1 _ I1 q1) λu s2 W'=>?_;obtain⟨y,H2,I2,r2,q2⟩:=W';exact hf v u s2 x y H2 I2 r1 r2 q2
def tVar (i:Nat):TE:=λZ H Q=>∃v,Z[i]?=some (some v)/\Q v H
def tC (v:V):TE:=λ_ H Q=>Q v H
theorem jG {i:Nat}{x:Str}{pos:Pos}(hN:X.N[i]?=some x)(hv:Vis X.env.scope x)(hd:(x == ("__debug__" : Str))=false:=by decide)(hcd:(x == ("__classdict__" : Str))=false:=by decide):PE X (.Name x pos) (tVar i):=by
 intro ld s Z H Q I h;obtain⟨v,e,h⟩:=h;obtain⟨m,hn,hl⟩:=I.loc;obtain⟨u,r,l⟩:=hl i x v hN e hv;have mt:EP X ld Z Q u s:=⟨v,H,I,r,h⟩;rcases l with⟨hk,hm⟩|⟨hk,c,hc,dl⟩
 .exact wpAny_Name (wpAny_loadName_local I.ok.kind hk hn hm mt) hd
 .rcases hk with hk|hk
  .exact wpAny_Name (wpAny_loadName_cell I.ok.kind hk hc dl mt) hd
  .exact wpAny_Name (wpAny_loadName_free I.ok.kind hk hc dl mt hcd) hd
theorem aV {i j pos}:PE X (.Constant (.int i) j pos) (tC (.int i)):=λ_ _ _ H _ I h=>wpAny_Constant_int ⟨.int i,H,I.tok _,⟨_,rfl⟩,h⟩
theorem sY {b j pos}:PE X (.Constant (.bool b) j pos) (tC (.bl b)):=λ_ _ _ H _ I h=>Constant_bool ⟨.bl b,H,I,rfl,h⟩
theorem d8 {j pos}:PE X (.Constant .none j pos) (tC .non):=λ_ _ _ H _ I h=>Constant_none ⟨.non,H,I,rfl,h⟩
theorem aO {x j pos}:PE X (.Constant (.str x) j pos) (tC (.str x)):=λ_ _ _ H _ I h=>Calls.Constant_str ⟨.str x,H,I.tok _,⟨_,rfl⟩,h⟩
def Gl (X:Cx)(x:Str):Prop:=X.env.kindOf x=some .globalImplicit
theorem d9 {E:Value->Shared->Prop}{pins:List (Addr×Obj)}{s:Shared}{Z:St}{H:Hp}{x:Str}{u:Value}{pos:Pos}{Q:Value->Shared->Prop}(I:Inv X pins Z H s)(hg:Gl X x)(hm:X.mg x=some u)(h:Q u s)
  (hd:(x == ("__debug__" : Str))=false:=by decide):wpAny (model X.prog X.w) X.A (eval (.Name x pos) X.env) Q E s:=
 Calls.Name_function_global I.ok.kind hg (Calls.loadGlobal_global (by rw[I.ok.glob];exact I.mod.glob.keeps I.bk) hm h) hd
theorem az {E:Value->Shared->Prop}{pins:List (Addr×Obj)}{s:Shared}{Z:St}{H:Hp}{x:Str}{u:Value}{pos:Pos}{Q:Value->Shared->Prop}(I:Inv X pins Z H s)(hg:Gl X x)(hm:X.mg x=none)(hv:bootBuiltins x=some u)(h:Q u s)
  (hn:x ≠ "__name__" := by decide) (hd:(x == ("__debug__" : Str))=false:=by decide):wpAny (model X.prog X.w) X.A (eval (.Name x pos) X.env) Q E s:=by
 obtain⟨mb,h1,h2⟩:=I.mod.blt;exact Calls.Name_function_global I.ok.kind hg (Calls.loadGlobal_builtin (by rw[I.ok.glob];exact I.mod.glob.keeps I.bk) hm (by rw[I.ok.blt];exact h1.keeps I.bk) ((h2 x hn).trans hv) h) hd
theorem dA {x:Str}{v:V}{u:Value}{pos:Pos}(hg:Gl X x)(hm:X.mg x=some u)(r:RelV v u)(hd:(x == ("__debug__" : Str))=false:=by decide):PE X (.Name x pos) (tC v):=
 λ_ _ _ H _ I h=>d9 I hg hm ⟨v,H,I,r,h⟩ hd
theorem sZ {x:Str}{v:V}{u:Value}{pos:Pos}(hg:Gl X x)(hm:X.mg x=none)(hv:bootBuiltins x=some u)(r:RelV v u)(hn:x ≠ "__name__" := by decide)(hd:(x == ("__debug__" : Str))=false:=by decide):PE X (.Name x pos) (tC v):=
 λ_ _ _ H _ I h=>az I hg hm hv ⟨v,H,I,r,h⟩ hn hd
variable {a b:Expr}{ta tb:TE}{pos:Pos}
def PC (X:Cx)(op:CmpOp)(a b:Expr)(t:TE):Prop:=
 ∀(pins:List (Addr×Obj)) (s:Shared) (Z:St) (H:Hp) (Q:VK),Inv X pins Z H s->t Z H Q ->
  wpAny (model X.prog X.w) X.A (eval a X.env) (λv s₁=>wpAny (model X.prog X.w) X.A (eval b X.env) (λu s₂=>wpAny (model X.prog X.w) X.A (compareOp op v u) (EP X pins Z Q) X.xe s₂) X.xe s₁) X.xe s
def tB (t:TE):TT:=λZ H Q=>t Z H λx H1=>∃c,x=.bl c/\Q c H1
theorem EU {op:CmpOp}{t:TE}(h:PC X op a b t)(h1:behindInMarks op b=false:=by first|exact nobehind _ (by decide) (by decide)|rfl):PT X (.Compare a [op] [b] pos) (tB t):=by intro pins s Z H Q I hw;refine wpAny_isTrue_Compare1 (thn (h pins s Z H _ I hw) λv s1 h1=>thn h1 λu s2 h2=>thn h2 λc s3 W'=>?_) h1;obtain⟨x,H1,I1,r1,q1⟩:=W';obtain⟨d,rfl,q⟩:=q1;cases r1;exact wpAny_truthy_bool ⟨H1,I1,q⟩
theorem aW {e:Expr}{t:TE}(h:PE X e t)(he:∀whole,isTrue e X.env whole=(do let v <- whole;standAt e.pos;holding [v] (truthy v)):=by intro _;rfl):PT X e (tB t):=by intro pins s Z H Q I hw;refine isTrue_plain (thn (h pins s Z H _ I hw) λv s1 W'=>?_) (he _);obtain⟨x,H1,I1,r1,q1⟩:=W';obtain⟨d,rfl,q⟩:=q1;cases r1;exact wpAny_truthy_bool ⟨H1,I1,q⟩
variable {tA tB':TT}{rest:List Expr}
def tAnd (t u:TT):TT:=λZ H Q=>t Z H λc H1=>if c=true then u Z H1 Q else Q false H1
def tOr (t u:TT):TT:=λZ H Q=>t Z H λc H1=>if c=true then Q true H1 else u Z H1 Q
def tNot (t:TT):TT:=λZ H Q=>t Z H λc H1=>Q (!c) H1
theorem bz (ha:PT X a tA):PW X (.BoolOp .And [a] pos) tA:=by
 intro wh pins s Z H Q I h;refine isTrue_and (thn (ha pins s Z H Q I h) λc s1 e=>?_);cases c with
 |true=>exact isTrue_and_nil e
 |false=>exact e
theorem c9 (ha:PT X a tA):PW X (.BoolOp .Or [a] pos) tA:=by
 intro wh pins s Z H Q I h;refine isTrue_or (thn (ha pins s Z H Q I h) λc s1 e=>?_);cases c with
 |false=>exact isTrue_or_nil e
 |true=>exact e
theorem bf (ha:PT X a tA)(hb:PW X (.BoolOp .And (b::rest) pos) tB'):PW X (.BoolOp .And (a::b::rest) pos) (tAnd tA tB'):=by
 intro wh pins s Z H Q I h;refine isTrue_and (thn (ha pins s Z H _ I h) λc s1 W'=>?_);obtain⟨H1,I1,q1⟩:=W';cases c with
 |true=>exact hb wh pins s1 Z H1 Q I1 q1
 |false=>exact⟨H1,I1,q1⟩
theorem bg (ha:PT X a tA)(hb:PW X (.BoolOp .Or (b::rest) pos) tB'):PW X (.BoolOp .Or (a::b::rest) pos) (tOr tA tB'):=by
 intro wh pins s Z H Q I h;refine isTrue_or (thn (ha pins s Z H _ I h) λc s1 W'=>?_);obtain⟨H1,I1,q1⟩:=W';cases c with
 |true=>exact⟨H1,I1,q1⟩
 |false=>exact hb wh pins s1 Z H1 Q I1 q1
theorem aj (ha:PT X a tA):PT X (.UnaryOp .Not a pos) (tNot tA):=by intro pins s Z H Q I h;exact isTrue_not (ha pins s Z H (λc H1=>Q (!c) H1) I h)
def tAndV (ta tb:TE):TE:=λZ H Q=>ta Z H λx H1=>∃c,x=.bl c/\if c=true then tb Z H1 Q else Q (.bl false) H1
def tOrV (ta tb:TE):TE:=λZ H Q=>ta Z H λx H1=>∃c,x=.bl c/\if c=true then Q (.bl true) H1 else tb Z H1 Q
def tNotV (ta:TE):TE:=λZ H Q=>ta Z H λx H1=>∃c,x=.bl c/\Q (.bl (!c)) H1
theorem bR {op}{t:TE}(h:PE X a t):PE X (.BoolOp op [a] pos) t:=λpins s Z H Q I hw=>BoolOp_one (h pins s Z H Q I hw)
theorem bB (ha:PE X a ta)(hb:PE X (.BoolOp .And (b::rest) pos) tb):PE X (.BoolOp .And (a::b::rest) pos) (tAndV ta tb):=by
 intro pins s Z H Q I h;refine BoolOp_and (thn (ha pins s Z H _ I h) λv s1 W'=>?_);obtain⟨x,H1,I1,r1,q1⟩:=W';obtain⟨c,rfl,q1⟩:=q1;cases r1;refine wpAny_truthy_bool ?_;cases c with
 |true=>exact hb pins s1 Z H1 Q I1 q1
 |false=>exact⟨.bl false,H1,I1,rfl,q1⟩
theorem jH (ha:PE X a ta)(hb:PE X (.BoolOp .Or (b::rest) pos) tb):PE X (.BoolOp .Or (a::b::rest) pos) (tOrV ta tb):=by
 intro pins s Z H Q I h;refine BoolOp_or (thn (ha pins s Z H _ I h) λv s1 W'=>?_);obtain⟨x,H1,I1,r1,q1⟩:=W';obtain⟨c,rfl,q1⟩:=q1;cases r1;refine wpAny_truthy_bool ?_;cases c with
 |false=>exact hb pins s1 Z H1 Q I1 q1
 |true=>exact⟨.bl true,H1,I1,rfl,q1⟩
theorem jI (ha:PE X a ta):PE X (.UnaryOp .Not a pos) (tNotV ta):=by intro pins s Z H Q I h;refine UnaryOp_ (thn (ha pins s Z H _ I h) λv s1 W'=>?_);obtain⟨x,H1,I1,r1,q1⟩:=W';obtain⟨c,rfl,q1⟩:=q1;cases r1;exact not_of (wpAny_truthy_bool ⟨.bl (!c),H1,I1,rfl,q1⟩)
def tIf (t:TT)(ta tb:TE):TE:=λZ H Q=>t Z H λc H1=>if c=true then ta Z H1 Q else tb Z H1 Q
theorem bh {c:Expr}(hc:PT X c tA)(ha:PE X a ta)(hb:PE X b tb):PE X (.IfExp c a b pos) (tIf tA ta tb):=by
 intro pins s Z H Q I h;refine wpAny_IfExp (thn (hc pins s Z H _ I h) λd s1 W'=>?_);obtain⟨H1,I1,q1⟩:=W';cases d with
 |true=>exact ha pins s1 Z H1 Q I1 q1
 |false=>exact hb pins s1 Z H1 Q I1 q1
end
def SqL (K:W.Frag)(H:Hp)(a:Addr)(xs:List V):Prop:=
 Rd H a (.lst xs)\/
  ∃(o:Obj) (its:Array Value) (n:Nat),K.lookup a=some o/\o.cls=.type "list"/\o.dict=none/\o.data=.seq its n/\its.size<=sizeLine/\Vals xs its.toList
def SqT (K:W.Frag)(H:Hp)(a:Addr)(xs:List V):Prop:=
 Rd H a (.tup xs)\/
  ∃(o:Obj) (its:Array Value) (n:Nat),K.lookup a=some o/\o.cls=.type "tuple"/\o.data=.seq its n/\its.size<=sizeLine/\Vals xs its.toList
noncomputable def absV:Value->Option V
 |.none=>some .non
 |.bool b=>some (.bl b)
 |.int i _=>some (.int i)
 |.str x _=>some (.str x)
 |.bytes b _=>some (.byt b)
 |.float b _=>some (.flt b)
 |.ref a=>some (.ref a)
 |.type n=>some (.ty n)
 |_=>none
theorem RelV.abs {x:V}{u:Value}(r:RelV x u):absV u=some x:=by
 cases x with
 |non=>cases r;rfl
 |bl _=>cases r;rfl
 |int _=>obtain⟨t,rfl⟩:=r;rfl
 |str _=>obtain⟨t,rfl⟩:=r;rfl
 |byt _=>obtain⟨t,rfl⟩:=r;rfl
 |flt _=>obtain⟨t,rfl⟩:=r;rfl
 |ref _=>cases r;rfl
 |ty _=>cases r;rfl
theorem RelV.inj {x y:V}{u:Value}(r:RelV x u)(q:RelV y u):x=y:=Option.some.inj (r.abs.symm.trans q.abs)
theorem Vals.inj {xs ys:List V}{us:List Value}(h:Vals xs us)(h':Vals ys us):xs=ys:=by
 induction h generalizing ys with
 |nil=>cases h';rfl
 |cons r t ih=>cases h' with
  |cons r' t'=>rw[r.inj r',ih t']
section
variable {X:Cx}{pins:List (Addr×Obj)}{Z:St}{H:Hp}{s:Shared}{a:Addr}{xs ys:List V}
theorem SqL.of {K:W.Frag}(h:H a=some (.lst xs)):SqL K H a xs:=.inl (.inl h)
theorem SqT.of {K:W.Frag}(h:H a=some (.tup xs)):SqT K H a xs:=.inl (.inl h)
theorem Inv.list (I:Inv X pins Z H s)(h:SqL X.K H a xs):∃its:List Value,Vals xs its/\PlainL s.heap a its.toArray/\xs.length<=sizeLine:=by
 rcases h with h|⟨o,its,n,hk,hc,hd,hs,hz,r⟩
 .obtain⟨z,its,n,r,e⟩:=h.ok I.hok;exact⟨its,r,⟨_,n,e,rfl,rfl,rfl⟩,z⟩
 .refine⟨its.toList,r,⟨o,n,I.kIn a o hk,hc,hd,by simpa using hs⟩,?_⟩;have e:=r.length;simp only[Array.length_toList] at e;lia
theorem Inv.tuple (I:Inv X pins Z H s)(h:SqT X.K H a xs):∃its:List Value,Vals xs its/\IsTup s.heap a its.toArray/\xs.length<=sizeLine:=by
 rcases h with h|⟨o,its,n,hk,hc,hs,hz,r⟩
 .obtain⟨z,its,r,p⟩:=h.ok I.hok;exact⟨its,r,p,z⟩
 .refine⟨its.toList,r,⟨o,I.kIn a o hk,hc,n,by simpa using hs⟩,?_⟩;have e:=r.length;simp only[Array.length_toList] at e;lia
theorem Inv.list_inj (I:Inv X pins Z H s)(h:SqL X.K H a xs)(h':SqL X.K H a ys):xs=ys:=by
 obtain⟨its,r,⟨o,n,e,_,_,d⟩,_⟩:=I.list h;obtain⟨its',r',⟨o',n',e',_,_,d'⟩,_⟩:=I.list h';rw[e] at e';cases e';rw[d] at d';injection d' with d1 _;have:its=its':=by simpa using congrArg Array.toList d1
 subst this;exact r.inj r'
theorem Inv.tuple_inj (I:Inv X pins Z H s)(h:SqT X.K H a xs)(h':SqT X.K H a ys):xs=ys:=by
 obtain⟨its,r,⟨o,e,_,n,d⟩,_⟩:=I.tuple h;obtain⟨its',r',⟨o',e',_,n',d'⟩,_⟩:=I.tuple h';rw[e] at e';cases e';rw[d] at d';injection d' with d1 _;have:its=its':=by simpa using congrArg Array.toList d1
 subst this;exact r.inj r'
end
noncomputable abbrev Cx.wish (X:Cx)(E:Value->Shared->Prop):Cx:={ X with xe:=E}
noncomputable abbrev Cx.nox (X:Cx):Cx:=X.wish λ_ _=>False
theorem Cx.Ok.wish {X:Cx}(ok:X.Ok)(E:Value->Shared->Prop):(X.wish E).Ok:=
 ⟨ok.mod,ok.kind,ok.glob,ok.blt,ok.above,ok.inj,ok.has,ok.cab,ok.hd,ok.frames,ok.stk,ok.exf,ok.bs,ok.bsz,ok.noex,ok.exfs,ok.funs,ok.frf⟩
theorem Cx.Ok.unwish {X:Cx}{E:Value->Shared->Prop}(ok:(X.wish E).Ok):X.Ok:=
 ⟨ok.mod,ok.kind,ok.glob,ok.blt,ok.above,ok.inj,ok.has,ok.cab,ok.hd,ok.frames,ok.stk,ok.exf,ok.bs,ok.bsz,ok.noex,ok.exfs,ok.funs,ok.frf⟩
section
variable {X:Cx}{pins:List (Addr×Obj)}{Z:St}{H:Hp}{s:Shared}{E:Value->Shared->Prop}
theorem Inv.wish (I:Inv X pins Z H s)(E:Value->Shared->Prop):Inv (X.wish E) pins Z H s:=⟨I.ok.wish E,I.os,I.bare,I.base,I.loc,I.cell,I.free,I.freeC,I.pin,I.hok,I.len⟩
theorem Inv.unwish (I:Inv (X.wish E) pins Z H s):Inv X pins Z H s:=⟨I.ok.unwish,I.os,I.bare,I.base,I.loc,I.cell,I.free,I.freeC,I.pin,I.hok,I.len⟩
theorem SP.unwish {D:Ends}{f:Flow}{s':Shared}(h:SP (X.wish E) pins D f s'):SP X pins D f s':=by
 cases f with
 |next=>obtain⟨Z',H',I,q⟩:=h;exact⟨Z',H',I.unwish,q⟩
 |brk=>obtain⟨Z',H',I,q⟩:=h;exact⟨Z',H',I.unwish,q⟩
 |cont=>obtain⟨Z',H',I,q⟩:=h;exact⟨Z',H',I.unwish,q⟩
 |ret u=>obtain⟨v,Z',H',I,r,q⟩:=h;exact⟨v,Z',H',I.unwish,r,q⟩
theorem PSs.nox {st:List Stmt}{t:TS}(h:PSs X.nox st t):PSs X st t:=λpins s Z H D I hw=>
 wpAny_mono (h pins s Z H D (I.wish _) hw) (λ_ _ q=>q.unwish) λ_ _ z=>False.elim z
end
section
variable {X:Cx}{st:Stmt}{rest:List Stmt}{t u:TS}{e:Expr}{te:TE}{pos:Pos}
def tNext:TS:=λD Z H=>D.nx Z H
def tSeq (t u:TS):TS:=λD Z H=>t {D with nx:=u D} Z H
theorem aT:PSs X [] tNext:=λ_ _ Z H _ I h=>wpAny_execs_nil ⟨Z,H,I,h⟩
theorem a9 (h1:PS X st t)(h2:PSs X rest u):PSs X (st::rest) (tSeq t u):=by
 intro pins s Z H D I h;refine wpAny_execs_cons (thn (h1 pins s Z H {D with nx:=u D} I h) λf s1 q=>?_);cases f with
 |next=>obtain⟨Z',H',I',q⟩:=q;exact h2 pins s1 Z' H' D I' q
 |ret v=>exact q
 |brk=>exact q
 |cont=>exact q
theorem aD (h1:PS X st t):PSs X [st] t:=by
 intro pins s Z H D I h;refine wpAny_execs_cons (thn (h1 pins s Z H D I h) λf s1 q=>?_);cases f with
 |next=>exact wpAny_execs_nil q
 |ret v=>exact q
 |brk=>exact q
 |cont=>exact q
theorem Inv.quiet {pins:List (Addr×Obj)}{Z:St}{H:Hp}{s:Shared}(I:Inv X pins Z H s):interactive X.env=false:=by simp[interactive,I.ok.kind]
def tDrop (te:TE):TS:=λD Z H=>te Z H λ_ H1=>D.nx Z H1
theorem bi (he:PE X e te)(hs:swapsWith e none pos.line X.env=pure false:=by rfl):PS X (.Expr e pos) (tDrop te):=by intro pins s Z H D I h;exact wpAny_Expr_any (thn (he pins s Z H _ I h) λv s1 ⟨x,H1,I1,r1,q1⟩=>⟨Z,H1,I1,q1⟩) I.quiet hs
def tRet (te:TE):TS:=λD Z H=>te Z H D.rt
theorem aQ (he:PE X e te):PS X (.Return (some e) pos) (tRet te):=by intro pins s Z H D I h;exact wpAny_Return_some (thn (he pins s Z H _ I h) λv s1 ⟨x,H1,I1,r1,q1⟩=>⟨x,Z,H1,I1,r1,q1⟩)
def tIfS (c:TT)(t u:TS):TS:=λD Z H=>c Z H λb H1=>if b=true then t D Z H1 else u D Z H1
theorem aS {c:Expr}{a b:List Stmt}{tc:TT}(hc:PT X c tc)(ha:PSs X a t)(hb:PSs X b u):PS X (.If c a b pos) (tIfS tc t u):=by
 intro pins s Z H D I h;refine wpAny_If (thn (hc pins s Z H _ I h) λd s1 W'=>?_);obtain⟨H1,I1,q1⟩:=W';cases d with
 |true=>exact ha pins s1 Z H1 D I1 q1
 |false=>exact hb pins s1 Z H1 D I1 q1
def tNever:TS:=λ_ _ _=>False
theorem sh:PS X st tNever:=λ_ _ _ _ _ _ h=>h.elim
end
noncomputable abbrev TG:=V->St->Hp->(St->Hp->Prop)->Prop
noncomputable abbrev TGs:=List V->St->Hp->(St->Hp->Prop)->Prop
def PG (X:Cx)(target:Expr)(t:TG):Prop:=
 ∀(pins:List (Addr×Obj)) (s:Shared) (Z:St) (H:Hp) (v:V) (u:Value) (Q:St->Hp->Prop),Inv X pins Z H s->RelV v u->t v Z H Q ->
  wpAny (model X.prog X.w) X.A (assign target X.env u) (λ_ s'=>∃Z' H',Inv X pins Z' H' s'/\Q Z' H') X.xe s
def PGs (X:Cx)(ts:List Expr)(t:TGs):Prop:=
 ∀(pins:List (Addr×Obj)) (s:Shared) (Z:St) (H:Hp) (vs:List V) (us:List Value) (Q:St->Hp->Prop),Inv X pins Z H s->Vals vs us->t vs Z H Q ->
  wpAny (model X.prog X.w) X.A (assignInOrder ((assignEach ts X.env).map (·.2)) us) (λ_ s'=>∃Z' H',Inv X pins Z' H' s'/\Q Z' H') X.xe s
noncomputable abbrev TSet:=V->V->V->Hp->(Hp->Prop)->Prop
def PSet (X:Cx)(t:TSet):Prop:=
 ∀(pins:List (Addr×Obj)) (s:Shared) (Z:St) (H:Hp) (o i v:V) (ov iv u:Value) (Q:Hp->Prop),Inv X pins Z H s->RelV o ov->RelV i iv->RelV v u->t o i v H Q ->
  wpAny (model X.prog X.w) X.A (setItem ov iv u) (λ_ s'=>∃H',Inv X pins Z H' s'/\Q H') X.xe s
section
variable {X:Cx}{pos:Pos}
def gName (i:Nat):TG:=λv Z H Q=>Q (Z.set i (some v)) H
theorem cA {i:Nat}{x:Str}(hN:X.N.Nodup)(hi:X.N[i]?=some x)(hx:Loc X.env.scope x)(hf:X.fn x=true\/X.env.scope.names.lookup x=some .local:=by first|exact .inl rfl|exact .inr rfl|assumption):PG X (.Name x pos) (gName i):=by intro pins s Z H v u Q I r h;exact wpAny_assign_Name (jF I hN hi hx r (λs' I'=>⟨_,H,I',h⟩) hf)
def gNil:TGs:=λvs Z H Q=>vs=[]/\Q Z H
def gCons (t:TG)(u:TGs):TGs:=λvs Z H Q=>∃v r,vs=v::r/\t v Z H λZ' H'=>u r Z' H' Q
theorem bS:PGs X [] gNil:=by intro pins s Z H vs us Q I r h;obtain⟨e,h⟩:=h;subst e;cases r;exact assignInOrder_nil ⟨Z,H,I,h⟩
theorem af {e:Expr}{es:List Expr}{t:TG}{u:TGs}(h1:PG X e t)(h2:PGs X es u)
  (hs:(assignEach (e::es) X.env).map (·.2)=assign e X.env::(assignEach es X.env).map (·.2):=by rfl):PGs X (e::es) (gCons t u):=by
 intro pins s Z H vs us Q I r h;obtain⟨v,vr,e1,h⟩:=h;subst e1;cases r with
 |cons r rr=>rw[hs];refine assignInOrder_cons (thn (h1 pins s Z H _ _ _ I r h) λ_ s1 W'=>?_);obtain⟨Z1,H1,I1,q1⟩:=W';exact h2 pins s1 Z1 H1 _ _ Q I1 rr q1
def gTup (K:W.Frag)(n:Nat)(t:TGs):TG:=λv Z H Q=>∃a xs,v=.ref a/\SqT K H a xs/\xs.length=n/\t xs Z H Q
theorem jJ {es:List Expr}{k:Nat}{t:TGs}{n:Nat}(hc:X.calm=true)(h:PGs X es t)
  (hn:(assignEach es X.env).length=n:=by rfl) (hst:(assignEach es X.env).findIdx? (·.1)=none:=by rfl):PG X (.Tuple es k pos) (gTup X.K n t):=by
 intro dl s Z H v u Q I r hw;obtain⟨a,xs,e1,hq,hl,hw⟩:=hw;subst e1;cases r;obtain⟨ld,rv,ht,hz⟩:=I.tuple hq;refine assign_Tuple_tuple (I.ok.hd hc) ht (by simp[hn,<- hl,rv.length]) hst λh' hx=>?_;have I1:Inv X dl Z H {s with heap:=h' }:=I.kept (t':=s.toks) λb o e=>hx b o (Nat.ne_of_lt (Heap.lt_size e)) e;exact h dl _ Z H xs _ Q I1 (by simpa using rv) hw
def gSub (to ti:TE)(t:TSet):TG:=λv Z H Q=>to Z H λo H1=>ti Z H1 λi H2=>t o i v H2 λH3=>Q Z H3
theorem si {o i:Expr}{to ti:TE}{t:TSet}(ho:PE X o to)(hi:PE X i ti)(hs:PSet X t)
  (ha:∀v,assign (.Subscript o i pos) X.env v=(do
   let ov <- holding [v] (eval o X.env)
   let iv <- holding [v,ov] (eval i X.env)
   standAt pos
   holding [v,ov,iv] (setItem ov iv v)
   release [v,ov,iv] []):=by intro _;rfl):PG X (.Subscript o i pos) (gSub to ti t):=by
 intro dl s Z H v u Q I r h;rw[ha];refine wpAny_bind (wpAny_holding (thn (ho dl s Z H _ I h) λov s1 W'=>?_));obtain⟨x,H1,I1,r1,q1⟩:=W';refine wpAny_bind (wpAny_holding (thn (hi dl s1 Z H1 _ I1 q1) λiv s2 W'=>?_));obtain⟨y,H2,I2,r2,q2⟩:=W';refine wpAny_bind (wpAny_standAt (wpAny_bind (wpAny_holding (thn (hs dl s2 Z H2 x y v ov iv u _ I2 r1 r2 r q2) λ_ s3 W'=>?_))));obtain⟨H3,I3,q3⟩:=W';exact wpAny_release ⟨Z,H3,I3,q3⟩
def tAsg (te:TE)(g:TG):TS:=λD Z H=>te Z H λx H1=>g x Z H1 D.nx
theorem jK {tg e:Expr}{te:TE}{g:TG}(he:PE X e te)(hg:PG X tg g)(hs:swapsWithSole [tg] e pos.line X.env=pure false:=by rfl)(hw:swappedStores [tg] e X.env=pure none:=by rfl)
  (h1:(assignEach [tg] X.env).map (·.2)=[assign tg X.env]:=by rfl):PS X (.Assign [tg] e pos) (tAsg te g):=by
 intro pins s Z H D I h;refine wpAny_Assign_stores (thn (he pins s Z H _ I h) λv s1 W'=>?_) hs hw;obtain⟨x,H1,I1,r1,q1⟩:=W';rw[h1];exact thn (hg pins s1 Z H1 x v _ I1 r1 q1) λ_ s2 q=>q
theorem fT {i:Nat}{x:Str}{e:Expr}{te:TE}{pos':Pos}(hN:X.N.Nodup)(hi:X.N[i]?=some x)(hx:Loc X.env.scope x)(he:PE X e te)(hs:swapsWith e (some (.Name x pos')) pos.line X.env=pure false:=by rfl)(hf:X.fn x=true\/X.env.scope.names.lookup x=some .local:=by first|exact .inl rfl|exact .inr rfl|assumption) :
  PS X (.Assign [.Name x pos'] e pos) (tAsg te (gName i)):=by
 intro pins s Z H D I h;refine wpAny_Assign_Name (thn (he pins s Z H _ I h) λv s1 W'=>?_) hs;obtain⟨y,H1,I1,r1,q1⟩:=W';exact jF I1 hN hi hx r1 (λs2 I2=>⟨_,H1,I2,q1⟩) hf
end
section
variable {X:Cx}{pos:Pos}
def tWhile (c:TT)(tb:TS):TS:=λD Z H=>∃W:Nat->St->Hp->Prop,(∃m,W m Z H)/\∀m Z H,W m Z H ->
 c Z H λb H1=>if b=true then ∃N:St->Hp->Prop,(∀Z' H',N Z' H'->∃m',m' < m/\W m' Z' H')/\tb {D with nx:=N,ct:=N,bk:=D.nx} Z H1 else D.nx Z H1
theorem cC {c:Expr}{body:List Stmt}{tc:TT}{tb:TS}(hp:PassesOwn (model X.prog X.w) X.A X.env X.xe)(hc:PT X c tc)(hb:PSs X body tb):PS X (.While c body [] pos) (tWhile tc tb):=by
 intro dl s Z H D I h;obtain⟨W,⟨m0,w0⟩,ld⟩:=h;refine wpAny_While (codeAny_whileLoop (λn s'=>∃Z' H',Inv X dl Z' H' s'/\W n Z' H') ?_ m0 ⟨Z,H,I,w0⟩);rintro n s1 ⟨Z1,H1,I1,w1⟩;refine wpAny_passesOwn hp (thn (hc dl s1 Z1 H1 _ I1 (ld n Z1 H1 w1)) λb s2 W'=>?_);obtain⟨H2,I2,q2⟩:=W';cases b with
 |true=>
  obtain⟨N,hN,q2⟩:=q2;rw[if_pos rfl];refine wpAny_passesOwn hp (thn (hb dl s2 Z1 H2 _ I2 q2) λf s3 q3=>?_);cases f with
  |next=>obtain⟨Z3,H3,I3,n3⟩:=q3;obtain⟨m',hm,w3⟩:=hN Z3 H3 n3;exact⟨m',hm,Z3,H3,I3,w3⟩
  |cont=>obtain⟨Z3,H3,I3,n3⟩:=q3;obtain⟨m',hm,w3⟩:=hN Z3 H3 n3;exact⟨m',hm,Z3,H3,I3,w3⟩
  |brk=>exact q3
  |ret v=>exact q3
 |false=>rw[if_neg Bool.false_ne_true];exact wpAny_execs_nil ⟨Z1,H2,I2,q2⟩
end
structure It where
 go:Nat->Hp->Prop
 yld:Nat->Hp->V->Hp->Prop
 stop:Nat->Hp->Prop
def FpOk (X:Cx)(pins:List (Addr×Obj))(H:Hp)(b:Addr):Prop:=
 H b=none/\b≠X.env.locals/\b∉X.fs/\(b∈X.ex\/X.s₀.heap.objs.size<=b)/\(∀x c,X.env.cells.lookup x=some c->c≠b)/\∀p∈X.pn++pins,p.1≠b
theorem Inv.fpOk {X:Cx}{pins:List (Addr×Obj)}{Z:St}{H H':Hp}{s:Shared}{b:Addr}(I:Inv X pins Z H s)(hb:s.heap.objs.size<=b)(hn:H' b=none):FpOk X pins H' b:=by
 refine⟨hn,Nat.ne_of_gt (Nat.lt_of_lt_of_le I.lt hb),I.nofs hb,.inr (Nat.le_trans I.sz hb),λx c e z=>?_,λp hp z=>?_⟩
 .obtain⟨v,q⟩:=I.cell x c e;exact absurd (Nat.lt_of_lt_of_le q.lt (by rw[z];exact hb)) (Nat.lt_irrefl _)
 .exact absurd (Nat.lt_of_lt_of_le (Heap.lt_size (I.pin p hp).1) (by rw[z];exact hb)) (Nat.lt_irrefl _)
structure Turn (P:Program)(w:World)(K:W.Frag)(tg:Expr)(J:It)(fp:List Addr)(it:Addr)(tn:Nat->Heap->Prop):Prop where
 mem:it∈fp
 obj:∀i h,tn i h->∀b∈fp,∃o,h.get? b=some o/\∀v,o.data≠.cell v
 keep:∀i h h',tn i h->(∀b∈fp,∀o,h.get? b=some o->h'.get? b=some o)->tn i h'
 item:∀(X:Cx),X.prog=P->X.w=w->X.K=K->X.calm=true->∀(i:Nat) (pins:List (Addr×Obj)) (s:Shared) (Z:St) (H:Hp) (E:Value->Shared->Prop),Inv X pins Z H s->(∀b∈fp,FpOk X pins H b)->tn i s.heap->J.go i H ->
  wpAny (model P w) X.A (pyNext (.ref it)) (λr s1=>∃u,r=some u/\
   wpAny (model P w) X.A (letOwnedTupleGo tg (.ref it) u) (λ_ s2=>∃x H',Inv X pins Z H' s2/\RelV x u/\J.yld i H x H'/\tn (i+1) s2.heap/\∀b∈fp,H' b=none) E s1) E s
 done:∀(X:Cx),X.prog=P->X.w=w->X.K=K->X.calm=true->∀(i:Nat) (pins:List (Addr×Obj)) (s:Shared) (Z:St) (H:Hp) (E:Value->Shared->Prop),Inv X pins Z H s->(∀b∈fp,FpOk X pins H b)->tn i s.heap->J.stop i H ->
  wpAny (model P w) X.A (pyNext (.ref it)) (λr s1=>r=none/\Inv X pins Z H s1) E s
 self:∀(A:Around) (i:Nat) (s:Shared) (Q:Value->Shared->Prop) (E:Value->Shared->Prop),tn i s.heap->Q (.ref it) s->wpAny (model P w) A (pyIter (.ref it)) Q E s
noncomputable abbrev TI:=St->Hp->(It->Hp->Prop)->Prop
def PIE (X:Cx)(pins:List (Addr×Obj))(Z:St)(tg:Expr)(R:It->Hp->Prop)(itv:Value)(s2:Shared):Prop:=
 ∃(it:Addr) (fp:List Addr) (tn:Nat->Heap->Prop) (J:It) (H':Hp),itv=.ref it/\Inv X pins Z H' s2/\Turn X.prog X.w X.K tg J fp it tn/\tn 0 s2.heap/\(∀b∈fp,FpOk X pins H' b)/\R J H'
def PI (X:Cx)(tg iter:Expr)(wi:TI):Prop:=
 ∀(pins:List (Addr×Obj)) (s:Shared) (Z:St) (H:Hp) (R:It->Hp->Prop),Inv X pins Z H s->wi Z H R ->
  wpAny (model X.prog X.w) X.A (eval iter X.env) (λv s1=>wpAny (model X.prog X.w) X.A (pyIter v) (PIE X pins Z tg R) X.xe s1) X.xe s
theorem cD {M:Model}{A:Around}{E:Value->Shared->Prop}{s:Shared}{tg:Expr}{it:Addr}{u:Value}{o:Obj}{n:String}{vs:Array Value}{Q:Unit->Shared->Prop}(ho:s.heap.get? it=some o)(hc:o.cls=.type n)(hd:o.data=.fields vs)
  (hn:["enumerate","zip","dict_itemiterator","dict_reverseitemiterator","odict_iterator","itertools.zip_longest","itertools.pairwise"].contains n=false) (hQ:Q () s):wpAny M A (letOwnedTupleGo tg (.ref it) u) Q E s:=by
 unfold letOwnedTupleGo;cases tg <;> first
  |exact wpAny_pure hQ
  | (cases u <;> first
    |exact wpAny_pure hQ
    | (refine wpAny_bind (wpAny_load ho ?_)
       rw[hc,hd];show wpAny M A (if (["enumerate","zip","dict_itemiterator","dict_reverseitemiterator","odict_iterator","itertools.zip_longest","itertools.pairwise"].contains n && vs[0]? == some (rawInt _))=true then _ else _) Q E s;rw[if_neg (by intro h;rw[hn,Bool.false_and] at h;cases h)];exact wpAny_pure hQ))
noncomputable def Itl (K:W.Frag)(a:Addr):It:=
 ⟨λi H=>∃xs x,SqL K H a xs/\xs[i]?=some x,λi H x H'=>H'=H/\∀xs,SqL K H a xs->xs[i]?=some x,λi H=>∃xs,SqL K H a xs/\xs.length<=i⟩
noncomputable def Itt (K:W.Frag)(a:Addr):It:=
 ⟨λi H=>∃xs x,SqT K H a xs/\xs[i]?=some x,λi H x H'=>H'=H/\∀xs,SqT K H a xs->xs[i]?=some x,λi H=>∃xs,SqT K H a xs/\xs.length<=i⟩
noncomputable def Itr (lo:Int)(n:Nat):It:=⟨λi _=>i < n,λi H x H'=>H'=H/\x=.int (lo+i),λi _=>n<=i⟩
theorem sj {P:Program}{w:World}{K:W.Frag}{tg:Expr}(a it:Addr):Turn P w K tg (Itl K a) [it] it (λi h=>h.IsListIter it a i) where
 mem:=by simp
 obj:=λi h st b hb=>by
  have e:b=it:=by simpa using hb
  subst e;obtain⟨o,e,c,d⟩:=st;exact⟨o,e,λv z=>by rw[d] at z;cases z⟩
 keep:=λi h h' st k=>st.at λo e=>k it (by simp) o e
 item:=by intro X hP hw hK hc i dl s Z H E I hf st hg;subst hP hw hK;obtain⟨xs,x,hq,hx⟩:=hg;obtain⟨mt,rv,p,hz⟩:=I.list hq;obtain⟨u,hu,ru⟩:=rv.get hx;obtain⟨f0,f1,f2,f3,f4,f5⟩:=hf it (by simp);refine wpAny_pyNext_list_item st p.isList (x:=u) (by simpa using hu) λh' ld sb=>?_;have I1:Inv X dl Z H {s with heap:=h' }:=I.turned (t':=s.toks) (λb o hb e=>(sb.2 b hb).trans e) f0 f1 f3 f4 f5;obtain⟨o,e,c,d⟩:=id ld;exact⟨u,rfl,cD (s:={ s with heap:=h' }) e c d (by decide) ⟨x,H,I1,ru,⟨rfl,λys hy=>by rw[I.list_inj hy hq];exact hx⟩,ld,λb hb=>(hf b hb).1⟩⟩
 done:=by intro X hP hw hK hc i dl s Z H E I hf st hg;subst hP hw hK;obtain⟨xs,hq,hx⟩:=hg;obtain⟨mt,rv,p,hz⟩:=I.list hq;obtain⟨f0,f1,f2,f3,f4,f5⟩:=hf it (by simp);have hl:=rv.length;exact wpAny_pyNext_list_end (I.ok.hd hc) st p.isList (by simp;lia) λh' eb=>⟨rfl,I.turned (t':=s.toks) (λb o hb e=>eb b o hb e) f0 f1 f3 f4 f5⟩
 self:=λ_ _ _ _ _ st h=>wpAny_pyIter_listiter st h
theorem sk {P:Program}{w:World}{K:W.Frag}{tg:Expr}(a it:Addr):Turn P w K tg (Itt K a) [it] it (λi h=>h.IsTupleIter it a i) where
 mem:=by simp
 obj:=λi h st b hb=>by
  have e:b=it:=by simpa using hb
  subst e;obtain⟨o,e,c,d⟩:=st;exact⟨o,e,λv z=>by rw[d] at z;cases z⟩
 keep:=λi h h' st k=>st.at λo e=>k it (by simp) o e
 item:=by intro X hP hw hK hc i dl s Z H E I hf st hg;subst hP hw hK;obtain⟨xs,x,hq,hx⟩:=hg;obtain⟨ld,rv,p,hz⟩:=I.tuple hq;obtain⟨u,hu,ru⟩:=rv.get hx;obtain⟨f0,f1,f2,f3,f4,f5⟩:=hf it (by simp);refine wpAny_pyNext_tuple_item st (show s.heap.IsTuple a ld.toArray from p) (x:=u) (by simpa using hu) λh' mt sb=>?_;have I1:Inv X dl Z H {s with heap:=h' }:=I.turned (t':=s.toks) (λb o hb e=>(sb.2 b hb).trans e) f0 f1 f3 f4 f5;obtain⟨o,e,c,d⟩:=id mt;exact⟨u,rfl,cD (s:={ s with heap:=h' }) e c d (by decide) ⟨x,H,I1,ru,⟨rfl,λys hy=>by rw[I.tuple_inj hy hq];exact hx⟩,mt,λb hb=>(hf b hb).1⟩⟩
 done:=by intro X hP hw hK hc i dl s Z H E I hf st hg;subst hP hw hK;obtain⟨xs,hq,hx⟩:=hg;obtain⟨ld,rv,p,hz⟩:=I.tuple hq;obtain⟨f0,f1,f2,f3,f4,f5⟩:=hf it (by simp);have hl:=rv.length;exact wpAny_pyNext_tuple_end (I.ok.hd hc) st (show s.heap.IsTuple a ld.toArray from p) (by simp;lia) λh' eb=>⟨rfl,I.turned (t':=s.toks) (λb o hb e=>eb b o hb e) f0 f1 f3 f4 f5⟩
 self:=λ_ _ _ _ _ st h=>wpAny_pyIter_tupleiter st h
theorem so {P:Program}{w:World}{K:W.Frag}{tg:Expr}(it:Addr)(lo:Int)(n:Nat):Turn P w K tg (Itr lo n) [it] it (λi h=>IsRangeIter h it (lo+(i:Nat) * 1) ((n:Int) - (i:Nat)) 1) where
 mem:=by simp
 obj:=λi h st b hb=>by
  have e:b=it:=by simpa using hb
  subst e;exact⟨_,st,λv z=>by have z':Data.fields _=Data.cell v:=z;cases z'⟩
 keep:=λi h h' st k=>k it (by simp) _ st
 item:=by intro X hP hw hK hc i dl s Z H E I hf st hg;subst hP hw hK;obtain⟨f0,f1,f2,f3,f4,f5⟩:=hf it (by simp);have W:=Walks.range (prog:=X.prog) (w:=X.w) (I.ok.hd hc) it lo 1 n;refine W.item i s _ _ hg st λv h' tk hv ld kk=>?_;obtain⟨t,rfl⟩:=hv;have I1:Inv X dl Z H {s with heap:=h',toks:=tk}:=I.turned (λb o hb e=>kk b o (by simpa using hb) e) f0 f1 f3 f4 f5;refine⟨_,rfl,cD (s:={ s with heap:=h',toks:=tk}) (n := "range_iterator") ld rfl rfl (by decide) ⟨.int (lo+i),H,I1,⟨t,?_⟩,⟨rfl,rfl⟩,ld,λb hb=>(hf b hb).1⟩⟩;rw[Int.mul_one]
 done:=by intro X hP hw hK hc i dl s Z H E I hf st hg;subst hP hw hK;obtain⟨f0,f1,f2,f3,f4,f5⟩:=hf it (by simp);exact wpAny_pyNext_range_end (I.ok.hd hc) st (by have:n<=i:=hg;lia) λh' eb=>⟨rfl,I.turned (t':=s.toks) (λb o hb e=>eb b o hb e) f0 f1 f3 f4 f5⟩
 self:=λ_ _ _ _ _ st h=>wpAny_pyIter_rangeiter st h
section
variable {X:Cx}{tg:Expr}
def iList (K:W.Frag)(tl:TE):TI:=λZ H R=>tl Z H λx H1=>∃a,x=.ref a/\(∃xs,SqL K H1 a xs)/\R (Itl K a) H1
def iTup (K:W.Frag)(tl:TE):TI:=λZ H R=>tl Z H λx H1=>∃a,x=.ref a/\(∃xs,SqT K H1 a xs)/\R (Itt K a) H1
theorem sq {l:Expr}{tl:TE}(hl:PE X l tl):PI X tg l (iList X.K tl):=by
 intro dl s Z H R I h;refine thn (hl dl s Z H _ I h) λv s1 W'=>?_;obtain⟨x,H1,I1,r1,q1⟩:=W';obtain⟨a,e,⟨xs,hq⟩,q⟩:=q1;subst e;cases r1;obtain⟨ld,rv,p,hz⟩:=I1.list hq;refine wpAny_pyIter_list p.isList ?_;refine⟨s1.heap.objs.size,[s1.heap.objs.size],_,_,H1,rfl,I1.kept (t':=s1.toks) λb o e=>Heap.get?_push_of_some _ e,sj a _,⟨_,Heap.get?_push_size _ rfl,rfl,rfl⟩,λb hb=>?_,q⟩;have e:b=s1.heap.objs.size:=by simpa using hb
 subst e;exact I1.fpOk (Nat.le_refl _) (I1.hok.fresh (Nat.le_refl _))
theorem sr {l:Expr}{tl:TE}(hl:PE X l tl):PI X tg l (iTup X.K tl):=by
 intro dl s Z H R I h;refine thn (hl dl s Z H _ I h) λv s1 W'=>?_;obtain⟨x,H1,I1,r1,q1⟩:=W';obtain⟨a,e,⟨xs,hq⟩,q⟩:=q1;subst e;cases r1;obtain⟨ld,rv,p,hz⟩:=I1.tuple hq;refine wpAny_pyIter_tuple (show s1.heap.IsTuple a ld.toArray from p) ?_;refine⟨s1.heap.objs.size,[s1.heap.objs.size],_,_,H1,rfl,I1.kept (t':=s1.toks) λb o e=>Heap.get?_push_of_some _ e,sk a _,⟨_,Heap.get?_push_size _ rfl,rfl,rfl⟩,λb hb=>?_,q⟩;have e:b=s1.heap.objs.size:=by simpa using hb
 subst e;exact I1.fpOk (Nat.le_refl _) (I1.hok.fresh (Nat.le_refl _))
theorem su {pins:List (Addr×Obj)}{Z:St}{H:Hp}{s:Shared}{R:It->Hp->Prop}{E:Value->Shared->Prop}{lo hi:Int}{t u v:Tok}{tk:Nat}(I:Inv X pins Z H s)(h1:-(2 ^ 62)<=lo)(h2:lo < 2 ^ 62)(h3:-(2 ^ 62)<=hi)(h4:hi < 2 ^ 62)
  (q:R (Itr lo (hi - lo).toNat) H):wpAny (model X.prog X.w) X.A (pyIter (.ref s.heap.objs.size)) (PIE X pins Z tg R) E {s with heap:=s.heap.push {cls:=.type "range",data:=.fields #[.int lo t,.int hi u,.int 1 v]},toks:=tk}:=by
 refine wpAny_pyIter_range (IsRange.new ..) (small_one h1 h2 h3 h4) ?_;have I1:Inv X pins Z H {s with heap:=s.heap.push {cls:=.type "range",data:=.fields #[.int lo t,.int hi u,.int 1 v]},toks:=tk}:=I.kept λb o e=>Heap.get?_push_of_some _ e;refine⟨(s.heap.push {cls:=.type "range",data:=.fields #[.int lo t,.int hi u,.int 1 v]}).objs.size,[(s.heap.push {cls:=.type "range",data:=.fields #[.int lo t,.int hi u,.int 1 v]}).objs.size],_,_,H,rfl,
  I1.kept (t':=tk) λb o e=>Heap.get?_push_of_some _ e,so _ lo (hi - lo).toNat,?_,λb hb=>?_,q⟩
 .have e1:lo+((0:Nat):Int) * 1=lo:=by simp
  have e2:(((hi - lo).toNat:Nat):Int) - ((0:Nat):Int)=Builtin.Range.rangeSize lo hi 1:=by rw[rangeSize_one];split <;> lia
  show IsRangeIter _ _ (lo+((0:Nat):Int) * 1) ((((hi - lo).toNat:Nat):Int) - ((0:Nat):Int)) 1;rw[e1,e2];exact Heap.get?_push_size _ rfl
 .have e:b=(s.heap.push {cls:=.type "range",data:=.fields #[.int lo t,.int hi u,.int 1 v]}).objs.size:=by simpa using hb
  subst e;exact I1.fpOk (Nat.le_refl _) (I1.hok.fresh (Nat.le_refl _))
def iRng1 (ta:TA):TI:=λZ H R=>ta Z H λvs H1=>∃j:Int,vs=[.int j]/\-(2 ^ 62)<=j/\j < 2 ^ 62/\R (Itr 0 j.toNat) H1
theorem dB {a:Expr}{ta:TA}{p pos:Pos}(hg:Gl X "range")(hm:X.mg "range"=none)(ha:PA X [a] ta)(hs:starEach [a] X.env=[(false,eval a X.env)]:=by rfl):PI X tg (.Call (.Name "range" p) [a] [] pos) (iRng1 ta):=by
 intro dl s Z H R I h;refine Call_ (az I hg hm boot_range (PyProof.Rows.callWith_type1 (thn (ha pos dl s Z H _ I h) λus s1 W'=>?_) hs rfl));obtain⟨vs,H1,I1,r1,q1⟩:=W';obtain⟨j,e,q1,q2,q⟩:=q1;subst e;cases r1 with
 |cons r rr=>cases rr;obtain⟨t,rfl⟩:=r;exact call_range_1 (su I1 (by lia) (by lia) q1 q2 (by simpa using q))
def tFor (wi:TI)(g:TG)(tb:TS):TS:=λD Z H=>wi Z H λJ H1=>∃W:Nat->Nat->St->Hp->Prop,(∃m,W 0 m Z H1)/\∀i m Z H,W i m Z H ->
 (J.stop i H/\D.nx Z H)\/(J.go i H/\∃N:St->Hp->Prop,(∀Z' H',N Z' H'->∃m',m' < m/\W (i+1) m' Z' H')/\∀x H',J.yld i H x H'->g x Z H' λZ2 H2=>tb {D with nx:=N,ct:=N,bk:=D.nx} Z2 H2)
noncomputable def pinsAt (fp:List Addr)(h:Heap):List (Addr×Obj):=fp.filterMap λb=>(h.get? b).map λo=>(b,o)
theorem dC {fp:List Addr}{h:Heap}{b:Addr}{o:Obj}(hb:b∈fp)(e:h.get? b=some o):(b,o)∈pinsAt fp h:=List.mem_filterMap.mpr ⟨b,hb,by rw[e];rfl⟩
theorem sv {fp:List Addr}{h:Heap}{p:Addr×Obj}(hp:p∈pinsAt fp h):p.1∈fp/\h.get? p.1=some p.2:=by
 obtain⟨b,hb,e⟩:=List.mem_filterMap.mp hp;cases q:h.get? b with
 |none=>rw[q] at e;cases e
 |some o=>rw[q] at e;have e':(b,o)=p:=Option.some.inj e;subst e';exact⟨hb,q⟩
theorem Inv.pinned {pins:List (Addr×Obj)}{Z:St}{H:Hp}{s:Shared}{fp:List Addr}(I:Inv X pins Z H s)(hf:∀b∈fp,FpOk X pins H b)(ho:∀b∈fp,∃o,s.heap.get? b=some o/\∀v,o.data≠.cell v):Inv X (pins++pinsAt fp s.heap) Z H s:=
 I.pins_of λp hp=>(mem_append.mp hp).elim (λz=>I.pin p (mem_append_right _ z)) λz=>by obtain⟨hb,e⟩:=sv z;obtain⟨f0,f1,f2,_⟩:=hf p.1 hb;obtain⟨o,e',d⟩:=ho p.1 hb;rw[e] at e';cases e';exact⟨e,f0,f1,f2,d⟩
theorem Inv.unpinned {pins pl:List (Addr×Obj)}{Z:St}{H:Hp}{s:Shared}(I:Inv X (pins++pl) Z H s):Inv X pins Z H s:=I.pins_of λp hp=>I.pin p (mem_append_right _ (mem_append_left _ hp))
theorem bC {iter:Expr}{body:List Stmt}{wi:TI}{g:TG}{tb:TS}{pos:Pos}(hp:PassesOwn (model X.prog X.w) X.A X.env X.xe)(hc:X.calm=true)(hi:PI X tg iter wi)(hg:PG X tg g)(hb:PSs X body tb)
  (hs:∀x,foldedSetIterable iter X.env x=pure x:=by intro _;rfl):PS X (.For tg iter body [] pos) (tFor wi g tb):=by
 intro dl s Z H D I h;refine wpAny_For (thn (hi dl s Z H _ I h) λv s1 h1=>thn h1 λFa s2 h2=>?_) hs;obtain⟨it,fp,tn,J,H2,e,I2,T,EY,f2,W,⟨m0,w0⟩,BT⟩:=h2;subst e;have mt:∀{H':Hp},(∀b∈fp,H' b=none)->∀b∈fp,FpOk X dl H' b:=λhn b hb=>⟨hn b hb,(f2 b hb).2⟩;refine codeAny_forLoop_any (λn s'=>∃i Z' H',Inv X dl Z' H' s'/\tn i s'.heap/\(∀b∈fp,H' b=none)/\W i n Z' H') ?_ m0 ⟨0,Z,H2,I2,EY,λb hb=>(f2 b hb).1,w0⟩;rintro n s3 ⟨i,Z3,H3,I3,EW,EX,w3⟩;rcases BT i n Z3 H3 w3 with⟨stop,qn⟩|⟨go,N,hN,step⟩
 .refine wpAny_passesOwn hp (thn (T.done X rfl rfl rfl hc i dl s3 Z3 H3 X.xe I3 (mt EX) EW stop) λr s4 W'=>?_);obtain⟨hr,I4⟩:=W';subst hr;exact wpAny_execs_nil ⟨Z3,H3,I4,qn⟩
 .refine wpAny_passesOwn hp (thn (T.item X rfl rfl rfl hc i dl s3 Z3 H3 X.xe I3 (mt EX) EW go) λr s4 W'=>?_);obtain⟨u,hr,h4⟩:=W';subst hr;refine wpAny_passesOwn hp (thn h4 λ_ s5 W'=>?_);obtain⟨x,H5,I5,r5,y5,Cl,EZ⟩:=W';have I5':=I5.pinned (mt EZ) (T.obj _ _ Cl);refine wpAny_passesOwn hp (thn (hg _ s5 Z3 H5 x u _ I5' r5 (step x H5 y5)) λ_ s6 W'=>?_);obtain⟨Z6,H6,I6,q6⟩:=W';refine wpAny_passesOwn hp (thn (hb _ s6 Z6 H6 _ I6 q6) λf s7 q7=>?_);have ld:∀{Z7:St}{H7:Hp},Inv X (dl++pinsAt fp s5.heap) Z7 H7 s7->N Z7 H7->∃m,m < n/\∃i Z' H',Inv X dl Z' H' s7/\tn i s7.heap/\(∀b∈fp,H' b=none)/\W i m Z' H':=λ{Z7 H7} I7 n7=>by
   obtain⟨m',hm,w7⟩:=hN Z7 H7 n7;refine⟨m',hm,i+1,Z7,H7,I7.unpinned,T.keep _ _ _ Cl λb hb o e=>(I7.pin (b,o) (mem_append_right _ (mem_append_right _ (dC hb e)))).1,λb hb=>?_,w7⟩;obtain⟨o,e,d⟩:=T.obj _ _ Cl b hb;exact (I7.pin (b,o) (mem_append_right _ (mem_append_right _ (dC hb e)))).2.1
  cases f with
  |next=>obtain⟨Z7,H7,I7,n7⟩:=q7;exact ld I7 n7
  |cont=>obtain⟨Z7,H7,I7,n7⟩:=q7;exact ld I7 n7
  |brk=>obtain⟨Z7,H7,I7,q7⟩:=q7;exact⟨Z7,H7,I7.unpinned,q7⟩
  |ret v=>obtain⟨x7,Z7,H7,I7,r7,q7⟩:=q7;exact⟨x7,Z7,H7,I7.unpinned,r7,q7⟩
end
theorem sw {K:W.Frag}{a:Addr}{xs:List V}{g:TG}{tb:TS}{D:Ends}{Z:St}{H:Hp}(Pv:Nat->St->Hp->Prop)(h0:Pv 0 Z H)(hl:∀i Z H,i<=xs.length->Pv i Z H->SqL K H a xs)
  (hs:∀i x Z H,xs[i]?=some x->Pv i Z H->g x Z H λZ2 H2=>tb {D with nx:=Pv (i+1),ct:=Pv (i+1),bk:=D.nx} Z2 H2) (hd:∀Z H,Pv xs.length Z H->D.nx Z H) :
  ∃W:Nat->Nat->St->Hp->Prop,(∃m,W 0 m Z H)/\∀i m Z H,W i m Z H ->
   ((Itl K a).stop i H/\D.nx Z H)\/((Itl K a).go i H/\∃N:St->Hp->Prop,(∀Z' H',N Z' H'->∃m',m' < m/\W (i+1) m' Z' H')/\∀x H',(Itl K a).yld i H x H'->g x Z H' λZ2 H2=>tb {D with nx:=N,ct:=N,bk:=D.nx} Z2 H2):=by
 refine⟨λi m Z H=>m=xs.length - i/\i<=xs.length/\Pv i Z H,⟨xs.length,by simp,Nat.zero_le _,h0⟩,?_⟩;rintro i m Z H ⟨rfl,hi,p⟩;have q:=hl i Z H hi p;by_cases dl:i < xs.length
 .refine .inr ⟨⟨xs,xs[i],q,by simp[dl]⟩,Pv (i+1),λZ' H' p'=>⟨xs.length - (i+1),by lia,rfl,dl,p'⟩,λx H' y=>?_⟩;obtain⟨e,y⟩:=y;subst e;exact hs i x Z _ (y xs q) p
 .have e:i=xs.length:=by lia
  subst e;exact .inl ⟨⟨xs,q,Nat.le_refl _⟩,hd Z H p⟩
theorem t5 {K:W.Frag}{a:Addr}{xs:List V}{g:TG}{tb:TS}{D:Ends}{Z:St}{H:Hp}(Pv:Nat->St->Hp->Prop)(h0:Pv 0 Z H)(hl:∀i Z H,i<=xs.length->Pv i Z H->SqT K H a xs)
  (hs:∀i x Z H,xs[i]?=some x->Pv i Z H->g x Z H λZ2 H2=>tb {D with nx:=Pv (i+1),ct:=Pv (i+1),bk:=D.nx} Z2 H2) (hd:∀Z H,Pv xs.length Z H->D.nx Z H) :
  ∃W:Nat->Nat->St->Hp->Prop,(∃m,W 0 m Z H)/\∀i m Z H,W i m Z H ->
   ((Itt K a).stop i H/\D.nx Z H)\/((Itt K a).go i H/\∃N:St->Hp->Prop,(∀Z' H',N Z' H'->∃m',m' < m/\W (i+1) m' Z' H')/\∀x H',(Itt K a).yld i H x H'->g x Z H' λZ2 H2=>tb {D with nx:=N,ct:=N,bk:=D.nx} Z2 H2):=by
 refine⟨λi m Z H=>m=xs.length - i/\i<=xs.length/\Pv i Z H,⟨xs.length,by simp,Nat.zero_le _,h0⟩,?_⟩;rintro i m Z H ⟨rfl,hi,p⟩;have q:=hl i Z H hi p;by_cases dl:i < xs.length
 .refine .inr ⟨⟨xs,xs[i],q,by simp[dl]⟩,Pv (i+1),λZ' H' p'=>⟨xs.length - (i+1),by lia,rfl,dl,p'⟩,λx H' y=>?_⟩;obtain⟨e,y⟩:=y;subst e;exact hs i x Z _ (y xs q) p
 .have e:i=xs.length:=by lia
  subst e;exact .inl ⟨⟨xs,q,Nat.le_refl _⟩,hd Z H p⟩
theorem t6 {lo:Int}{n:Nat}{g:TG}{tb:TS}{D:Ends}{Z:St}{H:Hp}(Pv:Nat->St->Hp->Prop)(h0:Pv 0 Z H)
  (hs:∀i Z H,i < n->Pv i Z H->g (.int (lo+i)) Z H λZ2 H2=>tb {D with nx:=Pv (i+1),ct:=Pv (i+1),bk:=D.nx} Z2 H2) (hd:∀Z H,Pv n Z H->D.nx Z H) :
  ∃W:Nat->Nat->St->Hp->Prop,(∃m,W 0 m Z H)/\∀i m Z H,W i m Z H ->
   ((Itr lo n).stop i H/\D.nx Z H)\/((Itr lo n).go i H/\∃N:St->Hp->Prop,(∀Z' H',N Z' H'->∃m',m' < m/\W (i+1) m' Z' H')/\∀x H',(Itr lo n).yld i H x H'->g x Z H' λZ2 H2=>tb {D with nx:=N,ct:=N,bk:=D.nx} Z2 H2):=by
 refine⟨λi m Z H=>m=n - i/\i<=n/\Pv i Z H,⟨n,by simp,Nat.zero_le _,h0⟩,?_⟩;rintro i m Z H ⟨rfl,hi,p⟩;by_cases dl:i < n
 .refine .inr ⟨dl,Pv (i+1),λZ' H' p'=>⟨n - (i+1),by lia,rfl,dl,p'⟩,λx H' y=>?_⟩;obtain⟨e,y⟩:=y;subst e y;exact hs i Z _ dl p
 .have e:i=n:=by lia
  subst e;exact .inl ⟨Nat.le_refl _,hd Z H p⟩
noncomputable abbrev R2:=V->V->Hp->VK->Prop
def OpR (X:Cx)(f:Value->Value->Sem Value)(r:R2):Prop:=
 ∀(pins:List (Addr×Obj)) (s:Shared) (Z:St) (H:Hp) (x y:V) (v u:Value) (Q:VK),Inv X pins Z H s->RelV x v->RelV y u->r x y H Q ->
  wpAny (model X.prog X.w) X.A (f v u) (EP X pins Z Q) X.xe s
def UnR (X:Cx)(f:Value->Sem Value)(r:V->Hp->VK->Prop):Prop:=
 ∀(pins:List (Addr×Obj)) (s:Shared) (Z:St) (H:Hp) (x:V) (v:Value) (Q:VK),Inv X pins Z H s->RelV x v->r x H Q ->
  wpAny (model X.prog X.w) X.A (f v) (EP X pins Z Q) X.xe s
def CallR (X:Cx)(f:Value)(r:List V->Hp->VK->Prop):Prop:=
 ∀(pins:List (Addr×Obj)) (s:Shared) (Z:St) (H:Hp) (xs:List V) (us:List Value) (Q:VK),Inv X pins Z H s->Vals xs us->r xs H Q ->
  wpAny (model X.prog X.w) X.A (call f us) (EP X pins Z Q) X.xe s
def tOp (r:R2)(ta tb:TE):TE:=λZ H Q=>ta Z H λx H1=>tb Z H1 λy H2=>r x y H2 Q
def tUn (r:V->Hp->VK->Prop)(ta:TE):TE:=λZ H Q=>ta Z H λx H1=>r x H1 Q
def rI (C:Int->Int->Prop)(g:Int->Int->V):R2:=λx y H Q=>∃i j,x=.int i/\y=.int j/\C i j/\Q (g i j) H
def rI0 (g:Int->Int->V):R2:=λx y H Q=>∃i j,x=.int i/\y=.int j/\Q (g i j) H
def rU (g:Int->V):V->Hp->VK->Prop:=λx H Q=>∃i,x=.int i/\Q (g i) H
section
variable {X:Cx}{a b c:Expr}{ta tb tc:TE}{pos:Pos}
theorem binT (ha:PE X a ta)(hb:PE X b tb){pins:List (Addr×Obj)}{s:Shared}{Z:St}{H:Hp}{R:V->V->Hp->Prop}(I:Inv X pins Z H s)
  (h:ta Z H λx H1=>tb Z H1 λy H2=>R x y H2) {Q:Value->Shared->Prop}{f:Value->Value->Sem Value}
  (hf:∀v u s2 x y H2,Inv X pins Z H2 s2->RelV x v->RelV y u->R x y H2->wpAny (model X.prog X.w) X.A (f v u) Q X.xe s2) :
  wpAny (model X.prog X.w) X.A (eval a X.env) (λv s₁=>wpAny (model X.prog X.w) X.A (eval b X.env) (λu s₂=>wpAny (model X.prog X.w) X.A (f v u) Q X.xe s₂) X.xe s₁) X.xe s:=by
 refine thn (ha pins s Z H _ I h) λv s1 W'=>?_;obtain⟨x,H1,I1,r1,q1⟩:=W';refine thn (hb pins s1 Z H1 _ I1 q1) λu s2 W'=>?_;obtain⟨y,H2,I2,r2,q2⟩:=W';exact hf v u s2 x y H2 I2 r1 r2 q2
theorem aX {op:Operator}{r:R2}(ho:OpR X (binaryOp op) r)(ha:PE X a ta)(hb:PE X b tb):PE X (.BinOp a op b pos) (tOp r ta tb):=by intro pins s Z H Q I h;exact wpAny_BinOp (binT ha hb I h λv u s2 x y H2 I2 rx ry q=>ho pins s2 Z H2 x y v u Q I2 rx ry q)
theorem t7 {op:UnaryOp}{r:V->Hp->VK->Prop}(ho:UnR X (unaryOp op) r)(ha:PE X a ta):PE X (.UnaryOp op a pos) (tUn r ta):=by intro pins s Z H Q I h;exact UnaryOp_ (thn (ha pins s Z H _ I h) λv s1 ⟨x,H1,I1,r1,q1⟩=>ho pins s1 Z H1 x v Q I1 r1 q1)
theorem opI {f:Value->Value->Sem Value}{C:Int->Int->Prop}{g:Int->Int->Int}
  (rule:∀(i j:Int) (t u:Tok) (s:Shared) (Q:Value->Shared->Prop) (E:Value->Shared->Prop),C i j->Q (.int (g i j) s.toks) {s with toks:=s.toks+1}->wpAny (model X.prog X.w) X.A (f (.int i t) (.int j u)) Q E s) :
  OpR X f (rI C λi j=>.int (g i j)):=by
 intro pins s Z H x y v u Q I rx ry h;obtain⟨i,j,rfl,rfl,hc,q⟩:=h;obtain⟨t,rfl⟩:=rx;obtain⟨t',rfl⟩:=ry;exact rule i j t t' s _ _ hc ⟨.int (g i j),H,I.tok _,⟨_,rfl⟩,q⟩
theorem opI0 {f:Value->Value->Sem Value}{g:Int->Int->Int}
  (rule:∀(i j:Int) (t u:Tok) (s:Shared) (Q:Value->Shared->Prop) (E:Value->Shared->Prop),Q (.int (g i j) s.toks) {s with toks:=s.toks+1}->wpAny (model X.prog X.w) X.A (f (.int i t) (.int j u)) Q E s) :
  OpR X f (rI0 λi j=>.int (g i j)):=by
 intro pins s Z H x y v u Q I rx ry h;obtain⟨i,j,rfl,rfl,q⟩:=h;obtain⟨t,rfl⟩:=rx;obtain⟨t',rfl⟩:=ry;exact rule i j t t' s _ _ ⟨.int (g i j),H,I.tok _,⟨_,rfl⟩,q⟩
theorem opB0 {f:Value->Value->Sem Value}{g:Int->Int->Bool}
  (rule:∀(i j:Int) (t u:Tok) (s:Shared) (Q:Value->Shared->Prop) (E:Value->Shared->Prop),Q (.bool (g i j)) s->wpAny (model X.prog X.w) X.A (f (.int i t) (.int j u)) Q E s) :
  OpR X f (rI0 λi j=>.bl (g i j)):=by
 intro pins s Z H x y v u Q I rx ry h;obtain⟨i,j,rfl,rfl,q⟩:=h;obtain⟨t,rfl⟩:=rx;obtain⟨t',rfl⟩:=ry;exact rule i j t t' s _ _ ⟨.bl (g i j),H,I,rfl,q⟩
def CDiv (i j:Int):Prop:=0 < j/\j < 1073741824
def CPow (i j:Int):Prop:=0<=j/\j<=1000000/\i.natAbs < 2 ^ 64
def CMul (i j:Int):Prop:=(-(2 ^ 64) < i/\i < 2 ^ 64)\/(-(2 ^ 64) < j/\j < 2 ^ 64)
theorem CMul.ok {i j:Int}(h:CMul i j):IntMulOk i j:=by
 rcases h with⟨h1,h2⟩|⟨h1,h2⟩
 .exact .of_left (intBits_le_64 h1 h2)
 .exact .of_right (intBits_le_64 h1 h2)
theorem t8:OpR X (binaryOp .Add) (rI0 λi j=>.int (i+j)):=opI0 λ_ _ _ _ _ _ _ q=>add_int q
theorem t9:OpR X (binaryOp .Sub) (rI0 λi j=>.int (i - j)):=opI0 λ_ _ _ _ _ _ _ q=>sub_int q
theorem tD:OpR X (binaryOp .Mult) (rI CMul λi j=>.int (i * j)):=opI λ_ _ _ _ _ _ _ hc q=>mul_int q hc.ok
theorem jL:OpR X (binaryOp .FloorDiv) (rI CDiv λi j=>.int (i / j)):=opI λi j _ _ _ _ _ hc q=>by have h1:(0:Int) < j:=hc.1;have h2:j < 1073741824:=hc.2;exact floordiv_int (by lia) (by rw[Int.fdiv_eq_ediv_of_nonneg i (by lia)];exact q) (.inl (PyProof.noPylong_small (by lia)))
theorem jM:OpR X (binaryOp .Mod) (rI (λ_ j=>0 < j) λi j=>.int (i % j)):=opI λi j _ _ _ _ _ hc q=>by have h1:(0:Int) < j:=hc;exact mod_int' (by lia) (by rw[Int.fmod_eq_emod_of_nonneg i (by lia)];exact q)
theorem fU:OpR X (binaryOp .Pow) (rI CPow λi j=>.int (i ^ j.toNat)):=opI λ_ _ _ _ _ _ _ hc q=>pow_int_small hc.1 hc.2.1 hc.2.2 q
theorem unI {f:Value->Sem Value}{g:Int->Int}
  (rule:∀(i:Int) (t:Tok) (s:Shared) (Q:Value->Shared->Prop) (E:Value->Shared->Prop),Q (.int (g i) s.toks) {s with toks:=s.toks+1}->wpAny (model X.prog X.w) X.A (f (.int i t)) Q E s) :
  UnR X f (rU λi=>.int (g i)):=by
 intro pins s Z H x v Q I rx h;obtain⟨i,rfl,q⟩:=h;obtain⟨t,rfl⟩:=rx;exact rule i t s _ _ ⟨.int (g i),H,I.tok _,⟨_,rfl⟩,q⟩
theorem tE:UnR X (unaryOp .USub) (rU λi=>.int (-i)):=unI λ_ _ _ _ _ q=>neg_int q
end
noncomputable def scal:V->V->Bool
 |.non,.non=>true|.non,.int _=>true|.int _,.non=>true|.non,.bl _=>true|.bl _,.non=>true|.non,.str _=>true|.str _,.non=>true
 |.int _,.int _=>true|.bl _,.bl _=>true|.str _,.str _=>true|.byt _,.byt _=>true
 |.int _,.str _=>true|.str _,.int _=>true|.bl _,.str _=>true|.str _,.bl _=>true
 |_,_=>false
def rEq:R2:=λx y H Q=>scal x y=true/\Q (.bl (decide (x=y))) H
def rNe:R2:=λx y H Q=>scal x y=true/\Q (.bl (!decide (x=y))) H
theorem jN {i j:Int}:decide (V.int i=V.int j)=(i == j):=by rw[Bool.eq_iff_iff];simp
theorem jO {i j:Bool}:decide (V.bl i=V.bl j)=(i == j):=by rw[Bool.eq_iff_iff];simp
theorem jP {i j:Str}:decide (V.str i=V.str j)=(i == j):=by rw[Bool.eq_iff_iff];simp
theorem jQ {i j:Array UInt8}:decide (V.byt i=V.byt j)=(i.toList == j.toList):=by rw[Bool.eq_iff_iff];cases i;cases j;simp
section
variable {X:Cx}{a b c:Expr}{ta tb tc:TE}{pos:Pos}
theorem aM {pins:List (Addr×Obj)}{Z:St}{H:Hp}{s:Shared}{Q:VK}{k k':Bool}(I:Inv X pins Z H s)(q:Q (.bl k) H)(e:k=k'):EP X pins Z Q (.bool k') s:=by subst e;exact⟨.bl k,H,I,rfl,q⟩
theorem cE:OpR X (compareOp .Eq) rEq:=by
 intro dl s Z H x y v u Q I rx ry h;obtain⟨hs,q⟩:=h;cases x with
 |non=>
  cases rx;cases y with
  |non=>cases ry;exact PySem.EqNone.eq_none_none (aM I q (by simp))
  |bl j=>cases ry;exact PySem.EqNone.eq_none_bool (aM I q (by simp))
  |int j=>obtain⟨t',rfl⟩:=ry;exact PySem.EqNone.eq_none_int (aM I q (by simp))
  |str j=>obtain⟨t',rfl⟩:=ry;exact PySem.EqNone.eq_none_str (aM I q (by simp))
  |_=>exact absurd (show false=true from hs) Bool.false_ne_true
 |bl i=>
  cases rx;cases y with
  |non=>cases ry;exact PySem.EqNone.eq_bool_none (aM I q (by simp))
  |bl j=>cases ry;exact eq_bool (aM I q jO)
  |str j=>obtain⟨t',rfl⟩:=ry;exact PySem.EqMixed.eq_bool_str (aM I q (by simp))
  |_=>exact absurd (show false=true from hs) Bool.false_ne_true
 |int i=>
  obtain⟨t,rfl⟩:=rx;cases y with
  |non=>cases ry;exact PySem.EqNone.eq_int_none (aM I q (by simp))
  |int j=>obtain⟨t',rfl⟩:=ry;exact eq_int (aM I q jN)
  |str j=>obtain⟨t',rfl⟩:=ry;exact PySem.EqMixed.eq_int_str (aM I q (by simp))
  |_=>exact absurd (show false=true from hs) Bool.false_ne_true
 |str i=>
  obtain⟨t,rfl⟩:=rx;cases y with
  |non=>cases ry;exact PySem.EqNone.eq_str_none (aM I q (by simp))
  |bl j=>cases ry;exact PySem.EqMixed.eq_str_bool (aM I q (by simp))
  |int j=>obtain⟨t',rfl⟩:=ry;exact PySem.EqMixed.eq_str_int (aM I q (by simp))
  |str j=>obtain⟨t',rfl⟩:=ry;exact eq_str (aM I q jP)
  |_=>exact absurd (show false=true from hs) Bool.false_ne_true
 |byt i=>
  obtain⟨t,rfl⟩:=rx;cases y with
  |byt j=>obtain⟨t',rfl⟩:=ry;exact PySem.W.eq_bytes (aM I q jQ)
  |_=>exact absurd (show false=true from hs) Bool.false_ne_true
 |_=>cases y <;> exact absurd (show false=true from hs) Bool.false_ne_true
theorem dD:OpR X (compareOp .NotEq) rNe:=by
 intro dl s Z H x y v u Q I rx ry h;obtain⟨hs,q⟩:=h;cases x with
 |non=>
  cases rx;cases y with
  |non=>cases ry;exact PySem.EqNone.ne_none_none (aM I q (by simp))
  |bl j=>cases ry;exact PySem.EqNone.ne_none_bool (aM I q (by simp))
  |int j=>obtain⟨t',rfl⟩:=ry;exact PySem.EqNone.ne_none_int (aM I q (by simp))
  |str j=>obtain⟨t',rfl⟩:=ry;exact PySem.EqNone.ne_none_str (aM I q (by simp))
  |_=>exact absurd (show false=true from hs) Bool.false_ne_true
 |bl i=>
  cases rx;cases y with
  |non=>cases ry;exact PySem.EqNone.ne_bool_none (aM I q (by simp))
  |bl j=>cases ry;exact ne_bool (aM I q (congrArg not jO))
  |str j=>obtain⟨t',rfl⟩:=ry;exact PySem.EqMixed.ne_bool_str (aM I q (by simp))
  |_=>exact absurd (show false=true from hs) Bool.false_ne_true
 |int i=>
  obtain⟨t,rfl⟩:=rx;cases y with
  |non=>cases ry;exact PySem.EqNone.ne_int_none (aM I q (by simp))
  |int j=>obtain⟨t',rfl⟩:=ry;exact ne_int (aM I q (congrArg not jN))
  |str j=>obtain⟨t',rfl⟩:=ry;exact PySem.EqMixed.ne_int_str (aM I q (by simp))
  |_=>exact absurd (show false=true from hs) Bool.false_ne_true
 |str i=>
  obtain⟨t,rfl⟩:=rx;cases y with
  |non=>cases ry;exact PySem.EqNone.ne_str_none (aM I q (by simp))
  |bl j=>cases ry;exact PySem.EqMixed.ne_str_bool (aM I q (by simp))
  |int j=>obtain⟨t',rfl⟩:=ry;exact PySem.EqMixed.ne_str_int (aM I q (by simp))
  |str j=>obtain⟨t',rfl⟩:=ry;exact ne_str (aM I q (congrArg not jP))
  |_=>exact absurd (show false=true from hs) Bool.false_ne_true
 |byt i=>
  obtain⟨t,rfl⟩:=rx;cases y with
  |byt j=>obtain⟨t',rfl⟩:=ry;exact PySem.W.ne_bytes (aM I q (congrArg not jQ))
  |_=>exact absurd (show false=true from hs) Bool.false_ne_true
 |_=>cases y <;> exact absurd (show false=true from hs) Bool.false_ne_true
theorem jR:OpR X (compareOp .Lt) (rI0 λi j=>.bl (decide (i < j))):=opB0 λ_ _ _ _ _ _ _ q=>lt_int q
theorem jS:OpR X (compareOp .LtE) (rI0 λi j=>.bl (decide (i<=j))):=opB0 λ_ _ _ _ _ _ _ q=>le_int q
theorem tF:OpR X (compareOp .Gt) (rI0 λi j=>.bl (decide (j < i))):=opB0 λ_ _ _ _ _ _ _ q=>gt_int q
theorem tG:OpR X (compareOp .GtE) (rI0 λi j=>.bl (decide (j<=i))):=opB0 λ_ _ _ _ _ _ _ q=>ge_int q
theorem tH:OpR X (compareOp .In) (λx y H Q=>∃i j,x=.str i/\y=.str j/\Q (.bl (!(Builtin.Str.occurrences j i 0 j.length 1).isEmpty)) H):=by intro pins s Z H x y v u Q I rx ry h;obtain⟨i,j,rfl,rfl,q⟩:=h;obtain⟨t,rfl⟩:=rx;obtain⟨t',rfl⟩:=ry;exact in_str (aM I q rfl)
theorem tI:OpR X (compareOp .Is) (λx y H Q=>y=.non/\Q (.bl (decide (x=.non))) H):=by
 intro pins s Z H x y v u Q I rx ry h;obtain⟨rfl,q⟩:=h;cases ry;refine is_none_gen (aM I q ?_);cases x <;> first
  | (cases rx;rfl)
  | (obtain⟨t,rfl⟩:=rx;rfl)
theorem tJ:OpR X (compareOp .IsNot) (λx y H Q=>y=.non/\Q (.bl (!decide (x=.non))) H):=by
 intro pins s Z H x y v u Q I rx ry h;obtain⟨rfl,q⟩:=h;cases ry;refine isnot_none_gen (aM I q ?_);cases x <;> first
  | (cases rx;rfl)
  | (obtain⟨t,rfl⟩:=rx;rfl)
theorem nomark (b:Expr){op:CmpOp}(h:op≠.In:=by decide)(h2:op≠.NotIn:=by decide):behindInMarks op b=false:=by
 have e1:(op == CmpOp.In)=false:=by cases op <;> first|rfl|exact absurd rfl h
 have e2:(op == CmpOp.NotIn)=false:=by cases op <;> first|rfl|exact absurd rfl h2
 cases b <;> simp[behindInMarks,e1,e2]
theorem dE {op:CmpOp}{r:R2}(ho:OpR X (compareOp op) r)(ha:PE X a ta)(hb:PE X b tb)(hm:behindInMarks op b=false):PE X (.Compare a [op] [b] pos) (tOp r ta tb):=by intro pins s Z H Q I h;exact wpAny_Compare1 (binT ha hb I h λv u s2 x y H2 I2 rx ry q=>ho pins s2 Z H2 x y v u Q I2 rx ry q) hm
def tTest (t:TE):TT:=λZ H Q=>t Z H λx H'=>∃k,x=.bl k/\Q k H'
theorem dF {op:CmpOp}{r:R2}(ho:OpR X (compareOp op) r)(ha:PE X a ta)(hb:PE X b tb)(hm:behindInMarks op b=false):PT X (.Compare a [op] [b] pos) (tTest (tOp r ta tb)):=by
 intro dl s Z H Q I h;refine wpAny_isTrue_Compare1 (thn (ha dl s Z H _ I h) λv s1 ⟨x,H1,I1,r1,q1⟩=>thn (hb dl s1 Z H1 _ I1 q1) λu s2 ⟨y,H2,I2,r2,q2⟩=>
  thn (ho dl s2 Z H2 x y v u _ I2 r1 r2 q2) λc s3 ⟨z,H3,I3,r3,k,e,q3⟩=>?_) hm
 subst e;cases r3;exact wpAny_truthy_bool ⟨H3,I3,q3⟩
def tChain (r r':R2)(ta tb tc:TE):TE:=λZ H Q=>ta Z H λx H1=>tb Z H1 λy H2=>r x y H2 λz H3=>∃k,z=.bl k/\
 (if k=true then tc Z H3 λw' H4=>r' y w' H4 Q else Q (.bl false) H3)
theorem jT {op op':CmpOp}{r r':R2}(ho:OpR X (compareOp op) r)(ho':OpR X (compareOp op') r')(ha:PE X a ta)(hb:PE X b tb)(hc:PE X c tc)
  (hm:lastMarks [op,op'] [b,c]=false:=by with_unfolding_all rfl):PE X (.Compare a [op,op'] [b,c] pos) (tChain r r' ta tb tc):=by
 intro dl s Z H Q I h;refine Compare_chain (thn (ha dl s Z H _ I h) λv s1 ⟨x,H1,I1,r1,q1⟩=>chain_link (thn (hb dl s1 Z H1 _ I1 q1) λu s2 ⟨y,H2,I2,r2,q2⟩=>
  thn (ho dl s2 Z H2 x y v u _ I2 r1 r2 q2) λd s3 ⟨z,H3,I3,r3,k,e,q3⟩=>?_)) hm
 subst e;cases r3;refine wpAny_truthy_bool ?_;cases k with
 |false=>exact ite_ff ⟨.bl false,H3,I3,rfl,q3⟩
 |true=>exact ite_tt (chain_last (thn (hc dl s3 Z H3 _ I3 q3) λw' s4 ⟨z',H4,I4,r4,q4⟩=>ho' dl s4 Z H4 y z' u w' Q I4 r2 r4 q4))
theorem tK {op op':CmpOp}{r r':R2}(ho:OpR X (compareOp op) r)(ho':OpR X (compareOp op') r')(ha:PE X a ta)(hb:PE X b tb)(hc:PE X c tc)
  (hm:lastMarks [op,op'] [b,c]=false:=by with_unfolding_all rfl):PT X (.Compare a [op,op'] [b,c] pos) (tTest (tChain r r' ta tb tc)):=by
 intro dl s Z H Q I h;refine isTrue_chain (thn (ha dl s Z H _ I h) λv s1 ⟨x,H1,I1,r1,q1⟩=>test_link (thn (hb dl s1 Z H1 _ I1 q1) λu s2 ⟨y,H2,I2,r2,q2⟩=>
  thn (ho dl s2 Z H2 x y v u _ I2 r1 r2 q2) λd s3 ⟨z,H3,I3,r3,k,e,q3⟩=>?_)) hm
 subst e;cases r3;refine wpAny_truthy_bool ?_;cases k with
 |false=>obtain⟨k',e',q'⟩:=q3;cases e';exact ite_ff ⟨H3,I3,q'⟩
 |true=>refine ite_tt (test_last (thn (hc dl s3 Z H3 _ I3 q3) λw' s4 ⟨z',H4,I4,r4,q4⟩=>thn (ho' dl s4 Z H4 y z' u w' _ I4 r2 r4 q4) λd' s5 W'=>?_));obtain⟨z2,H5,I5,r5,k2,e2,q5⟩:=W';subst e2;cases r5;exact wpAny_truthy_bool ⟨H5,I5,q5⟩
theorem line63:(sizeLine:Nat) < 2 ^ 63:=by rw[sizeLine_eq];decide
theorem tL:OpR X (binaryOp .Add) (λx y H Q=>∃i j,x=.str i/\y=.str j/\i.length+j.length<=sizeLine/\Q (.str (i++j)) H):=by intro pins s Z H x y v u Q I rx ry h;obtain⟨i,j,rfl,rfl,hz,q⟩:=h;obtain⟨t,rfl⟩:=rx;obtain⟨t',rfl⟩:=ry;exact add_str (λt' tk=>⟨.str (i++j),H,I.tok _,⟨_,rfl⟩,q⟩) hz
theorem vals1 {x:V}{us:List Value}(r:Vals [x] us):∃u,us=[u]/\RelV x u:=by
 cases r with
 |cons r1 r2=>cases r2;exact⟨_,rfl,r1⟩
theorem vals2 {x y:V}{us:List Value}(r:Vals [x,y] us):∃u w',us=[u,w']/\RelV x u/\RelV y w':=by
 cases r with
 |cons r1 r2=>
  cases r2 with
  |cons r3 r4=>cases r4;exact⟨_,_,rfl,r1,r3⟩
theorem jU:CallR X (.type "str") (λxs H Q=>∃i,xs=[.int i]/\i.natAbs.log2 < 1920/\Q (.str (toString i)) H):=by intro pins s Z H xs us Q I r h;obtain⟨i,rfl,hz,q⟩:=h;obtain⟨u,rfl,t,rfl⟩:=vals1 r;exact PySem.P.str_of_int hz ⟨.str _,H,I.tok _,⟨_,rfl⟩,q⟩
theorem tM:CallR X (.builtin "ord") (λxs H Q=>∃x,xs=[.str x]/\x.length=1/\Q (.int (x.cps.getD 0 0:Nat)) H):=by intro pins s Z H xs us Q I r h;obtain⟨x,rfl,hz,q⟩:=h;obtain⟨u,rfl,t,rfl⟩:=vals1 r;exact ord_of_one hz ⟨.int _,H,I.tok _,⟨_,rfl⟩,q⟩
end
structure ObjM (h:Heap)(x dx C:Addr)(mA:Str->Option Value):Prop where
 obj:h.get? x=some (PySem.W.instObj C dx)
 ns:h.Ns1 dx mA
 ne:dx≠x
theorem tN {h:Heap}{dx:Addr}{mA:Str->Option Value}(n:h.Ns1 dx mA):∃od,h.get? dx=some od/\∀name,PySem.W.lookIn name od=some (mA name):=by
 obtain⟨o,es,ep,ho,hd,hk,_,hm⟩:=n;refine⟨o,ho,λname=>?_⟩;have e:=hm name;unfold nsFind findBy at e;rw[<- Array.find?_toList] at e;unfold PySem.W.lookIn;rw[hd];dsimp only;split
 .rename_i y q;rw[q] at e;exact congrArg some e
 .rename_i q;rw[q] at e;have a:es.toList.any (·.refKey)=false:=by
   rw[List.any_eq_false];intro y hy;obtain⟨z,t,dl⟩:=hk y (Array.mem_toList_iff.mp hy);simp[DictEntry.refKey,dl]
  have a':¬ es.toList.any (·.refKey)=true:=by rw[a];exact Bool.false_ne_true
  rw[if_neg a'];exact congrArg some e
theorem ObjM.look {h:Heap}{x dx C:Addr}{mA:Str->Option Value}(I:ObjM h x dx C mA):∃od,PySem.W.InstAt h x (PySem.W.instObj C dx) C (some od)/\∀name,PySem.W.lookIn name od=some (mA name):=
 let ⟨od,ho,hl⟩:=tN I.ns
 ⟨od,⟨I.obj,rfl,rfl,ho⟩,hl⟩
section
variable {prog:Program}{w:World}{A:Around}{E:Value->Shared->Prop}{s:Shared}{K:W.Frag}{x dx C f:Addr}{mA:Str->Option Value}{name:Str}{v:Value}
theorem tO {expr:Bool}{Q:Value->Shared->Prop}(X:K.In s.heap)(I:ObjM s.heap x dx C mA)(hg:PySem.W.plainGet K C name=true)(hh:PySem.W.hasDictIn K C=true)
  (ha:PySem.W.findIn K (.ref C) name=some none) (hv:mA name=some v) (hv':PySem.W.handedIn v=true) (h:Q v {s with toks:=s.toks+1}) :
  wpAny (model prog w) A (getAttr (.ref x) name expr) Q E s:=by
 obtain⟨od,J,hl⟩:=I.look;exact PySem.W.get_value X J (PySem.W.plainGet_of hg).1 (PySem.W.findObj_own hh ha rfl (by rw[hl,hv])) hv' h
theorem tP {pl:Sem Bool}{Q:Value×List Value->Shared->Prop}(X:K.In s.heap)(I:ObjM s.heap x dx C mA)(hg:PySem.W.plainGet K C name=true)
  (hf:PySem.W.findIn K (.ref C) name=some (some (.ref f))) (ht:PySem.W.isFn K (.ref f)=true) (hv:mA name=none) (h:Q (.ref f,[.ref x]) s) :
  wpAny (model prog w) A (getMethod (.ref x) name pl) Q E s:=by
 obtain⟨od,J,hl⟩:=I.look;exact PySem.W.method_fn X J (PySem.W.plainGet_of hg).1 (PySem.W.plainGet_of hg).2 hf (beq_iff_eq.mp ht) (by show (PySem.W.lookIn name od).map (·.isSome)=some false;rw[hl,hv];rfl) h
theorem tQ {ns:List Str}{Q:Unit->Shared->Prop}(X:K.In s.heap)(I:ObjM s.heap x dx C mA)
  (hs:PySem.W.findIn K (.ref C) "__setattr__"=some (some (.builtin "object.__setattr__"))) (hp:PySem.W.plainOver K C=true) (ht:PySem.W.takerIn K C name=some none) (hh:PySem.W.hasDictIn K C=true)
  (hw:PySem.Within mA ns) (hsz:ns.length<=sizeLine)
  (h:∀h',ObjM h' x dx C (λy=>if y=name then some v else mA y)->Heap.SameBut dx s.heap h'->Q () {s with heap:=h',toks:=s.toks+2}) :
  wpAny (model prog w) A (setAttr (.ref x) name v) Q E s:=by
 obtain⟨od,J,hl⟩:=I.look;refine PySem.W.set_plain X J hs (PySem.W.osa_open (s:={ s with toks:=s.toks+1}) (r:=none) X J hp ht λb=>?_);obtain⟨cd,hc,Cl⟩:=PySem.W.any_some hh;have hx:s.heap.get? x=some ⟨.ref C,some dx,.plain,#[]⟩:=I.obj;refine wpAny_bind (wpAny_pure (wpAny_bind (wpAny_bind (wpAny_loadPart hx (wpAny_bind (PySem.W.Looks.here (s:={ s with toks:=s.toks+1}) (PySem.W.looks_clsIn X hc) ?_))))));rw[Cl];refine wpAny_pure (a:=some dx) (wpAny_bind (wpAny_pure (wpAny_bind ?_)));refine wpAny_nsSet1 (s:={ s with toks:=s.toks+1}) I.ns λh' ld dl=>?_;obtain⟨oD,EX,EY,mt,BT,EW⟩:=ld.count (PySem.Within.cons name v hw);refine wpAny_bind (wpAny_lookBehind mt (by rw[BT];exact pastItsLine_dict (Nat.le_trans EW (by rw[length_cons];lia))) ?_);exact wpAny_pure (h _ ⟨(dl.2 _ (Ne.symm I.ne)).trans I.obj,ld,I.ne⟩ dl)
theorem tR {R:Result->Shared->Prop}{vs:List Value}{kw:List (Str×Value)}(X:K.In s.heap)(hm:PySem.W.makesIn K C=true)
  (hi:PySem.W.findIn K (.ref C) "__init__"=some (some (.ref f))) (hf:PySem.W.typeIn K (.ref f)=some (.type "function"))
  (h:codeAny (model prog w) (A.under (.builtin "type.__call__" ⟨.ref C::vs,kw⟩)) (.call (.ref f) ⟨.ref (s.heap.objs.size+1)::vs,kw⟩) (PySem.W.InitBack (s.heap.objs.size+1) R)
   { s with heap:=(s.heap.push PySem.W.emptyDict).push (PySem.W.instObj C s.heap.objs.size)}) :
  codeAny (model prog w) A (.call (.ref C) ⟨vs,kw⟩) R s:=by
 obtain⟨hh,g,d,t,os⟩:=s;exact PySem.W.make_core (PySem.W.makes_of X hm) (PySem.W.looks_findIn X hi) (λself=>PySem.W.bind_fn X self hf) (.inl rfl) h
end
noncomputable def putF (f:Str)(v:V):List (Str×V)->List (Str×V)
 |[]=>[(f,v)]
 | (g,x)::r=>if g=f then (g,v)::r else (g,x)::putF f v r
theorem jV (f g:Str)(v:V):∀fs:List (Str×V),(putF f v fs).lookup g=if g=f then some v else fs.lookup g
 |[]=>by
  show List.lookup g [(f,v)]=_;by_cases h:g=f
  .have hb:(g == f)=true:=beq_iff_eq.mpr h;simp only[List.lookup,hb,if_pos h]
  .have hb:(g == f)=false:=beq_eq_false_iff_ne.mpr h;simp only[List.lookup,hb,if_neg h]
 | (k,x)::r=>by
  have ih:=jV f g v r;rw[show putF f v ((k,x)::r)=(if k=f then (k,v)::r else (k,x)::putF f v r) from rfl];by_cases hk:k=f
  .rw[if_pos hk];by_cases h:g=k
   .have hb:(g == k)=true:=beq_iff_eq.mpr h;simp only[List.lookup,hb,if_pos (h.trans hk)]
   .have hb:(g == k)=false:=beq_eq_false_iff_ne.mpr h;simp only[List.lookup,hb,if_neg (λe:g=f=>h (e.trans hk.symm))]
  .rw[if_neg hk];by_cases h:g=k
   .have hb:(g == k)=true:=beq_iff_eq.mpr h;simp only[List.lookup,hb,if_neg (λe:g=f=>hk (h.symm.trans e))]
   .have hb:(g == k)=false:=beq_eq_false_iff_ne.mpr h;simp only[List.lookup,hb];exact ih
theorem fV (f:Str)(v:V):∀fs:List (Str×V),f∈(putF f v fs).map (·.1)/\∀g,g∈fs.map (·.1)->g∈(putF f v fs).map (·.1)
 |[]=>⟨by simp[putF],λg h=>by simp at h⟩
 | (k,x)::r=>by
  obtain⟨i1,i2⟩:=fV f v r;rw[show putF f v ((k,x)::r)=(if k=f then (k,v)::r else (k,x)::putF f v r) from rfl];by_cases hk:k=f
  .rw[if_pos hk];subst hk;exact⟨by simp,λg h=>by simpa using h⟩
  .rw[if_neg hk];refine⟨?_,λg h=>?_⟩
   .rw[map_cons];exact mem_cons_of_mem _ i1
   .rw[map_cons] at h ⊢;rcases mem_cons.mp h with e|e
    .exact mem_cons.mpr (.inl e)
    .exact mem_cons_of_mem _ (i2 g e)
theorem jW (f:Str)(v:V):∀fs:List (Str×V),(putF f v fs).length<=fs.length+1
 |[]=>by simp[putF]
 | (k,x)::r=>by
  have ih:=jW f v r;rw[show putF f v ((k,x)::r)=(if k=f then (k,v)::r else (k,x)::putF f v r) from rfl];by_cases hk:k=f
  .rw[if_pos hk,length_cons,length_cons];lia
  .rw[if_neg hk,length_cons,length_cons];lia
theorem RelO.some_of {v:V}{o:Option Value}(r:RelO (some v) o):∃u,o=some u/\RelV v u:=by
 cases o with
 |none=>exact (show False from r).elim
 |some u=>exact⟨u,rfl,r⟩
theorem RelO.none_of {o:Option Value}(r:RelO none o):o=none:=by
 cases o with
 |none=>rfl
 |some u=>exact (show False from r).elim
theorem tS {v:V}{u:Value}(r:RelV v u):PySem.W.handedIn u=true:=by
 cases v with
 |non=>cases (show u=Value.none from r);rfl
 |bl b=>cases (show u=Value.bool b from r);rfl
 |int i=>obtain⟨t,e⟩:=(show ∃t,u=Value.int i t from r);cases e;rfl
 |str x=>obtain⟨t,e⟩:=(show ∃t,u=Value.str x t from r);cases e;rfl
 |byt b=>obtain⟨t,e⟩:=(show ∃t,u=Value.bytes b t from r);cases e;rfl
 |flt b=>obtain⟨t,e⟩:=(show ∃t,u=Value.float b t from r);cases e;rfl
 |ref a=>cases (show u=Value.ref a from r);rfl
 |ty n=>cases (show u=Value.type n from r);rfl
section
variable {P:Program}{w:World}{H H':Hp}{h h':Heap}{a C dx:Addr}{fs fs':List (Str×V)}
theorem dG (hok:HOk P w H h)(e:H a=some (.ins C dx fs)):∃mA,ObjM h a dx C mA/\(∀f,RelO (fs.lookup f) (mA f))/\PySem.Within mA (fs.map (·.1))/\fs.length<=1000/\H dx=some (.own a):=by obtain⟨d,z,ne,ob,mA,n,r,q⟩:=(show ObjOk P w H h a (.ins C dx fs) from hok a _ e);exact⟨mA,⟨ob,n,ne⟩,r,q,z,d⟩
end
structure Cls (K:W.Frag)(C:Addr):Prop where
 pg:PySem.W.plainGet K C Str.empty=true
 hd:PySem.W.hasDictIn K C=true
 po:PySem.W.plainOver K C=true
 sa:PySem.W.findIn K (.ref C) "__setattr__"=some (some (.builtin "object.__setattr__"))
theorem Cls.get {K:W.Frag}{C:Addr}(c:Cls K C)(f:Str):PySem.W.plainGet K C f=true:=c.pg
def NoAttr (K:W.Frag)(C:Addr)(f:Str):Prop:=PySem.W.findIn K (.ref C) f=some none
theorem NoAttr.taker {K:W.Frag}{C:Addr}{f:Str}(n:NoAttr K C f):PySem.W.takerIn K C f=some none:=by unfold PySem.W.takerIn;rw[show PySem.W.findIn K (.ref C) f=some none from n];rfl
structure Con (K:W.Frag)(C:Addr)(f:Str)(v:V)(u:Value):Prop where
 at_:PySem.W.findIn K (.ref C) f=some (some u)
 rel:RelV v u
 get:PySem.W.specialIn K u "__get__"=some none
 cp:PySem.W.copiedNames.contains f=false
structure Meth (K:W.Frag)(C:Addr)(m:Str)(f:Addr):Prop where
 at_:PySem.W.findIn K (.ref C) m=some (some (.ref f))
 fn:PySem.W.isFn K (.ref f)=true
 kp:PySem.W.keepIn K (.ref f)=true
section
variable {X:Cx}{pins:List (Addr×Obj)}{Z:St}{H:Hp}{s:Shared}{a C dx:Addr}{fs:List (Str×V)}{f:Str}{v:V}{A:Around}{E:Value->Shared->Prop}
theorem tT {b:Bool}{Q:Value->Shared->Prop}(I:Inv X pins Z H s)(e:H a=some (.ins C dx fs))(c:Cls X.K C)(n:NoAttr X.K C f)(l:fs.lookup f=some v)
  (h:∀u s',Inv X pins Z H s'->RelV v u->Q u s'):wpAny (model X.prog X.w) A (getAttr (.ref a) f b) Q E s:=by
 obtain⟨mA,O,r,_,_,_⟩:=dG I.hok e;obtain⟨u,hu,ru⟩:=RelO.some_of (v:=v) (o:=mA f) (by rw[<- l];exact r f);exact tO I.kIn O (c.get f) c.hd n hu (tS ru) (h u _ (I.tok _) ru)
theorem fW {m:Str}{g:Addr}{pl:Sem Bool}{Q:Value×List Value->Shared->Prop}(I:Inv X pins Z H s)(e:H a=some (.ins C dx fs))(c:Cls X.K C)(k:Meth X.K C m g)(l:fs.lookup m=none)
  (h:Q (.ref g,[.ref a]) s):wpAny (model X.prog X.w) A (getMethod (.ref a) m pl) Q E s:=by
 obtain⟨mA,O,r,_,_,_⟩:=dG I.hok e;have hn:mA m=none:=RelO.none_of (by rw[<- l];exact r m);exact tP I.kIn O (c.get m) k.at_ k.fn hn h
theorem tU {y:V}{u:Value}{Q:Unit->Shared->Prop}(I:Inv X pins Z H s)(e:H a=some (.ins C dx fs))(c:Cls X.K C)(n:NoAttr X.K C f)(hl:fs.length < 1000)(ry:RelV y u)
  (h:∀s',Inv X pins Z (upd H a (.ins C dx (putF f y fs))) s'->Q () s'):wpAny (model X.prog X.w) A (setAttr (.ref a) f u) Q E s:=by
 obtain⟨mA,O,r,wi,_,ho⟩:=dG I.hok e;have hz:(fs.map (·.1)).length<=sizeLine:=by rw[length_map,sizeLine_eq];lia
 refine tQ I.kIn O c.sa c.po n.taker c.hd wi hz λh' O' sb=>h _ ?_;have hd:∃o,h'.get? dx=some o:=let ⟨o,_,_,e',_⟩:=O'.ns;⟨o,e'⟩
 refine I.write (x:=a) (e:=dx) (by rw[e];exact True.intro) (.inr ho) (λb q hb z=>(sb.2 b hb).trans z) hd ?_;refine⟨by rw[aE O.ne];exact ho,?_,O.ne,O'.obj,_,O'.ns,λg=>?_,λg hg=>?_⟩
 .have:=jW f y fs;lia
 .show RelO ((putF f y fs).lookup g) (if g=f then some u else mA g);rw[jV];by_cases q:g=f
  .rw[if_pos q,if_pos q];exact ry
  .rw[if_neg q,if_neg q];exact r g
 .by_cases q:g=f
  .rw[q];exact (fV f y fs).1
  .refine (fV f y fs).2 g (wi g λz=>hg ?_);show (if g=f then some u else mA g)=none;rw[if_neg q];exact z
theorem Inv.made (I:Inv X pins Z H s):Inv X pins Z (upd (upd H s.heap.objs.size (.own (s.heap.objs.size+1))) (s.heap.objs.size+1) (.ins C s.heap.objs.size []))
  { s with heap:=(s.heap.push PySem.W.emptyDict).push (PySem.W.instObj C s.heap.objs.size)}:=by
 have e1:(s.heap.push PySem.W.emptyDict).get? s.heap.objs.size=some PySem.W.emptyDict:=Heap.get?_push_size s.heap rfl;have e2:((s.heap.push PySem.W.emptyDict).push (PySem.W.instObj C s.heap.objs.size)).get? (s.heap.objs.size+1)=some (PySem.W.instObj C s.heap.objs.size):=by
  have:=Heap.get?_push_size (s.heap.push PySem.W.emptyDict) (o:=PySem.W.instObj C s.heap.objs.size) rfl
  rwa [Heap.size_push] at this
 have e3:(s.heap.push PySem.W.emptyDict).Ns s.heap.objs.size (λ_=>none):=⟨PySem.W.emptyDict,#[],_,e1,rfl,(λe he=>absurd he (by simp)),λ_=>rfl⟩;have I1:=I.laid (a:=s.heap.objs.size) (o:=.own (s.heap.objs.size+1)) (h':=s.heap.push PySem.W.emptyDict) (t':=s.toks) (λb u q=>Heap.get?_push_of_some _ q) (Nat.le_refl _) ⟨_,e1⟩;refine I1.laid (a:=s.heap.objs.size+1) (o:=.ins C s.heap.objs.size []) (t':=s.toks) (λb u q=>Heap.get?_push_of_some _ q) (Nat.le_of_eq (Heap.size_push _ _)) ?_;have ne:s.heap.objs.size≠s.heap.objs.size+1:=Nat.ne_of_lt (Nat.lt_succ_self _);refine⟨by rw[aE ne,aC],Nat.zero_le _,ne,e2,λ_=>none,(Heap.Ns1.of_empty e3).at λo q=>Heap.get?_push_of_some _ q,λ_=>True.intro,λy hy=>absurd rfl hy⟩
theorem tW {prog:Program}{w:World}{env:Env}{e:Expr}{f:Str}{pos:Pos}{s:Shared}{Q:Value->Shared->Prop}(hb:attributeBase e f env (eval e env)=eval e env)
  (h:wpAny (model prog w) A (eval e env) (λo s₁=>wpAny (model prog w) A (getAttr o f true) Q E s₁) E s):wpAny (model prog w) A (eval (.Attribute e f pos) env) Q E s:=
 Attribute_any_ h (by rw[arm_eval_Attribute,hb])
end
def tFld (K:W.Frag)(ta:TE)(f:Str):TE:=λZ H Q=>ta Z H λx H1=>∃a C dx fs v,x=.ref a/\H1 a=some (.ins C dx fs)/\Cls K C/\NoAttr K C f/\fs.lookup f=some v/\Q v H1
def sFld (K:W.Frag)(ta tv:TE)(f:Str):TS:=λD Z H=>tv Z H λy H1=>ta Z H1 λx H2=>∃a C dx fs,x=.ref a/\H2 a=some (.ins C dx fs)/\Cls K C/\NoAttr K C f/\fs.length < 1000/\
 D.nx Z (upd H2 a (.ins C dx (putF f y fs)))
section
variable {X:Cx}{o e value:Expr}{f:Str}{pos pos' tpos:Pos}{ta tv:TE}
theorem tX (he:PE X e ta)(hb:attributeBase e f X.env (eval e X.env)=eval e X.env):PE X (.Attribute e f pos) (tFld X.K ta f):=by intro pins s Z H Q I h;refine tW hb (thn (he pins s Z H _ I h) λu s1 W'=>?_);obtain⟨x,H1,I1,rx,a,C,dx,fs,v,ex,ea,c,n,l,q⟩:=W';subst ex;obtain rfl:u=Value.ref a:=rx;exact tT I1 ea c n l λu' s2 I2 ru=>⟨v,H1,I2,ru,q⟩
theorem tZ (ha:PE X o ta)(hv:PE X value tv)(hs:swapsWith value (some (.Attribute o f pos')) pos.line X.env=pure false):PS X (.Assign [.Attribute o f pos'] value pos) (sFld X.K ta tv f):=by intro dl s Z H D I h;refine plainObj_wpAny_Assign_Attribute (thn (hv dl s Z H _ I h) λu s1 ⟨y,H1,I1,ry,q⟩=>thn (ha dl s1 Z H1 _ I1 q) λov s2 W'=>?_) hs;obtain⟨x,H2,I2,rx,a,C,dx,fs,ex,ea,c,n,l,q2⟩:=W';subst ex;obtain rfl:ov=Value.ref a:=rx;exact tU I2 ea c n l ry λs3 I3=>⟨Z,_,I3,q2⟩
theorem EV {pl:Sem Bool}{m:Str}{apos:Pos}{args:List Expr}{pins:List (Addr×Obj)}{s:Shared}{Z:St}{H:Hp}{Q:Value->Shared->Prop}{te:TE}(he:PE X e te)(I:Inv X pins Z H s)
  (h:te Z H λx H1=>∃a C dx fs g,x=.ref a/\H1 a=some (.ins C dx fs)/\Cls X.K C/\Meth X.K C m g/\fs.lookup m=none/\
   ∀s1,Inv X pins Z H1 s1->wpAny (model X.prog X.w) X.A (callWith pos (.ref g) [.ref a] (backTo pos (starEach args X.env)) (backToKw pos (keywordEach [] X.env))) Q X.xe s1)
  (ht:eval (.Call (.Attribute e m apos) args [] pos) X.env=(do
   let ov <- eval e X.env
   standAt apos.atName
   let (f,first) <- holding [ov] (getMethod ov m pl)
   callWith pos f first (backTo pos (starEach args X.env)) (backToKw pos (keywordEach [] X.env)))) :
  wpAny (model X.prog X.w) X.A (eval (.Call (.Attribute e m apos) args [] pos) X.env) Q X.xe s:=by
 refine PySem.W.methodCall_KW (pl:=pl) (thn (he pins s Z H _ I h) λu s1 W'=>?_) ht;obtain⟨x,H1,I1,rx,a,C,dx,fs,g,ex,ea,c,k,l,q⟩:=W';subst ex;obtain rfl:u=Value.ref a:=rx;exact fW I1 ea c k l (q s1 I1)
end
section
variable {X:Cx}{pins:List (Addr×Obj)}{Z:St}{H:Hp}{s:Shared}{A:Around}{E:Value->Shared->Prop}{Q:Value->Shared->Prop}{c:Value}{b:Bool}
inductive TyOf (K:W.Frag)(H:Hp):V->Value->Prop where
 |non:TyOf K H .non (.type "NoneType")
 |bl (x:Bool):TyOf K H (.bl x) (.type "bool")
 |int (i:Int):TyOf K H (.int i) (.type "int")
 |str (x:Str):TyOf K H (.str x) (.type "str")
 |flt (x:UInt64):TyOf K H (.flt x) (.type "float")
 |lst {a:Addr}{xs:List V} (e:H a=some (.lst xs)):TyOf K H (.ref a) (.type "list")
 |frz {a:Addr}{o:Obj}{xs:List V} (e:H a=some (.frz o (.lst xs))):TyOf K H (.ref a) (.type "list")
 |tup {a:Addr}{xs:List V} (e:H a=some (.tup xs)):TyOf K H (.ref a) (.type "tuple")
 |dK {a:Addr}{kvs:List (Key×V)} (e:H a=some (.dK kvs)):TyOf K H (.ref a) (.type "dict")
 |dT {a:Addr}{kvs:List (List Key×V)} (e:H a=some (.dT kvs)):TyOf K H (.ref a) (.type "dict")
 |ins {a C dx:Addr}{fs:List (Str×V)} (e:H a=some (.ins C dx fs)) (cl:Cls K C) (ha:PySem.W.findIn K (.ref C) "__class__"=some (some (.builtin "object.__class__")))
   (hn:PySem.W.specialIn K (.builtin "object.__class__") "__get__"=some (some (.builtin "getset_descriptor.__get__"))) (htk:PySem.W.takesIn K (.builtin "object.__class__")=some true)
   (hm:PySem.W.mroIn K C (.type "object")=some true):TyOf K H (.ref a) (.ref C)
theorem tf {x:V}{u t:Value}(I:Inv X pins Z H s)(rx:RelV x u)(ty:TyOf X.K H x t)(e:PySem.W.kitOne X.K t c=some b)(h:∀tk,Q (.bool b) {s with toks:=tk}) :
  wpAny (model X.prog X.w) A (call (.builtin "isinstance") [u,c]) Q E s:=by
 cases ty with
 |non=>cases (show u=Value.none from rx);exact PySem.W.kia_one PySem.W.kitx_none I.kIn True.intro e (λz=>nomatch z) h
 |bl y=>cases (show u=Value.bool y from rx);exact PySem.W.kia_one PySem.W.kitx_bool I.kIn True.intro e (λz=>nomatch z) h
 |int i=>obtain⟨t,q⟩:=(show ∃t,u=Value.int i t from rx);cases q;exact PySem.W.kia_one PySem.W.kitx_int I.kIn True.intro e (λz=>nomatch z) h
 |str y=>obtain⟨t,q⟩:=(show ∃t,u=Value.str y t from rx);cases q;exact PySem.W.kia_one PySem.W.kitx_str I.kIn True.intro e (λz=>nomatch z) h
 |flt y=>obtain⟨t,q⟩:=(show ∃t,u=Value.float y t from rx);cases q;exact PySem.W.kia_one PySem.W.kitx_float I.kIn True.intro e (λz=>nomatch z) h
 |@lst a xs ea=>cases (show u=Value.ref a from rx);obtain⟨_,_,n,_,h1⟩:=(show ObjOk X.prog X.w H s.heap a (.lst xs) from I.hok a _ ea);exact PySem.W.kia_one PySem.W.kitx_list I.kIn ⟨_,h1,rfl⟩ e (λz=>nomatch z) h
 |@frz a ob xs ea=>cases (show u=Value.ref a from rx);obtain⟨_,_,_,n,_,h1⟩:=(show ObjOk X.prog X.w H s.heap a (.frz ob (.lst xs)) from I.hok a _ ea);exact PySem.W.kia_one PySem.W.kitx_list I.kIn ⟨_,h1,rfl⟩ e (λz=>nomatch z) h
 |@tup a xs ea=>cases (show u=Value.ref a from rx);obtain⟨_,_,_,p⟩:=(show ObjOk X.prog X.w H s.heap a (.tup xs) from I.hok a _ ea);obtain⟨o,h1,h2,_⟩:=p;exact PySem.W.kia_one PySem.W.kitx_tuple I.kIn ⟨o,h1,h2⟩ e (λz=>nomatch z) h
 |@dK a kvs ea=>cases (show u=Value.ref a from rx);obtain⟨_,_,vs,_,p⟩:=(show ObjOk X.prog X.w H s.heap a (.dK kvs) from I.hok a _ ea);obtain⟨o,es,ep,h1,h2,_⟩:=p;exact PySem.W.kia_one PySem.W.kitx_dict I.kIn ⟨o,h1,h2.1⟩ e (λz=>nomatch z) h
 |@dT a kvs ea=>cases (show u=Value.ref a from rx);obtain⟨_,_,xs,_,o,es,ep,h1,h2,_⟩:=(show ObjOk X.prog X.w H s.heap a (.dT kvs) from I.hok a _ ea);exact PySem.W.kia_one PySem.W.kitx_dict I.kIn ⟨o,h1,h2.1⟩ e (λz=>nomatch z) h
 |@ins a C dx fs ea cl ha hn htk hm=>cases (show u=Value.ref a from rx);obtain⟨mA,O,_⟩:=dG I.hok ea;obtain⟨od,J,_⟩:=O.look;exact PySem.W.kia_one (PySem.W.kitx_own (cl.get _) cl.hd ha hn htk hm) I.kIn J e (λz=>nomatch z) h
end
structure Room (k:Nat)(A:Around):Prop where
 hd:A.handled=none
 dp:A.depth+3 * k+5 < recursionLimit
 un:A.units+16 * k+200 < cLine
theorem Room.mono {j k:Nat}{A:Around}(r:Room k A)(h:j<=k):Room j A:=⟨r.hd,by have:=r.dp;lia,by have:=r.un;lia⟩
theorem Room.deeper {k:Nat}{A:Around}(r:Room (k+1) A)(env:Env):Room k (A.deeper env):=
 ⟨r.hd,by have:=r.dp;show A.depth+1+3 * k+5 < _;lia,by have:=r.un;show A.units+3+16 * k+200 < _;lia⟩
theorem tj {A:Around}{C:Addr}{us:List Value}{kw:List (Str×Value)}:(A.under (.builtin "type.__call__" ⟨.ref C::us,kw⟩)).depth=A.depth+1:=by first|rfl|simp[Around.under,Code.weight,Code.isCreation,Code.isGuard,Code.isCaller,Code.frames,Code.isFrame,guardIds]
theorem tm {A:Around}{C:Addr}{us:List Value}{kw:List (Str×Value)}:(A.under (.builtin "type.__call__" ⟨.ref C::us,kw⟩)).units=A.units+1:=by first|rfl|simp[Around.under,Code.cUnits,Code.frames,Code.isFrame]
theorem Room.make {k:Nat}{A:Around}(r:Room (k+1) A)(C:Addr)(us:List Value)(kw:List (Str×Value)):Room k (A.under (.builtin "type.__call__" ⟨.ref C::us,kw⟩)):=
 ⟨r.hd,by have:=r.dp;rw[tj];lia,by have:=r.un;rw[tm];lia⟩
theorem Room.depth {k:Nat}{A:Around}(r:Room k A):A.depth < recursionLimit:=by have:=r.dp;lia
theorem Room.units {k:Nat}{A:Around}(r:Room k A):A.units+64 < cLine:=by have:=r.un;lia
def tNil:TA:=λ_ H Q=>Q [] H
def tCons (ta:TE)(tr:TA):TA:=λZ H Q=>ta Z H λx H1=>tr Z H1 λxs H2=>Q (x::xs) H2
section
variable {X:Cx}{e:Expr}{es:List Expr}{te:TE}{t:TA}{pos:Pos}
theorem aB:PA X [] tNil:=λ_ _ _ _ H Q I h=>Calls.spliced_nil ⟨[],H,I,.nil,h⟩
theorem a8 (ha:PE X e te)(hr:PA X es t)(hs:starEach (e::es) X.env=(false,eval e X.env)::starEach es X.env:=by rfl):PA X (e::es) (tCons te t):=by intro ld dl s Z H Q I h;rw[hs];show wpAny _ _ (spliced ((false,eval e X.env)::backTo ld (starEach es X.env))) _ _ s;refine Calls.spliced_cons (thn (ha dl s Z H _ I h) λu s1 W'=>?_);obtain⟨x,H1,I1,r1,q1⟩:=W';exact thn (hr ld dl s1 Z H1 _ I1 q1) λus s2 ⟨xs,H2,I2,r2,q2⟩=>⟨x::xs,H2,I2,.cons r1 r2,q2⟩
def tLst (t:TA):TE:=λZ H Q=>t Z H λxs H1=>xs.length<=sizeLine/\∀p,H1 p=none->Q (.ref p) (upd H1 p (.lst xs))
theorem tq (h:PA X es t):PE X (.List es pos) (tLst t):=by intro dl s Z H Q I hq;refine wpAny_List_spliced (thn (h pos dl s Z H _ I hq) λus s1 ⟨xs,H1,I1,r,z,q⟩=>⟨by rw[<- r.length];exact z,?_⟩);have hf:H1 s1.heap.objs.size=none:=I1.hok.fresh (Nat.le_refl _);refine⟨.ref s1.heap.objs.size,upd H1 s1.heap.objs.size (.lst xs),I1.laid (t':=s1.toks) (λb u e=>Heap.get?_push_of_some _ e) (Nat.le_refl _) ?_,rfl,q _ hf⟩;exact⟨z,us,0,r,Heap.get?_push_size _ rfl⟩
end
noncomputable abbrev Sp:=List V->Hp->VK->XK->Prop
noncomputable abbrev CXT:=List Env->Hp->Shared->XK->Value->Shared->Prop
structure Env0 (P:Program)(w:World)(K:W.Frag)(mg:Str->Option Value)(base:Heap)(A:Around)(outer:List Env)(s:Shared)(H:Hp):Prop where
 frames:A.frames=some outer
 mod:Mod K mg base
 bs:∀b o,base.get? b=some o->s.heap.get? b=some o/\H b=none
 bsz:base.objs.size<=s.heap.objs.size
 funs:s.heap.FunFrames base outer
 frf:∀b∈frs outer,H b=none
 hok:HOk P w H s.heap
 bare:AllBare s.gens
def CE (outer:List Env)(P:Program)(w:World)(H:Hp)(s:Shared)(Q:VK)(u:Value)(s':Shared):Prop:=
 ∃v H',s'.os=s.os/\AllBare s'.gens/\Un (frs outer) [] H H' s.heap s'.heap/\HOk P w H' s'.heap/\RelV v u/\Q v H'
def CR (CX:CXT)(outer:List Env)(P:Program)(w:World)(H:Hp)(s:Shared)(Q:VK)(E:XK)(r:Result)(s':Shared):Prop:=
 match r with
 |.ok (.ret u)=>CE outer P w H s Q u s'
 |.ok _=>False
 |.error e=>CX outer H s E e s'
structure FnOk (P:Program)(w:World)(K:W.Frag)(mg:Str->Option Value)(base:Heap)(CX:CXT)(k:Nat)(f:Addr)(fd:FuncData)(ps:List Str)(sp:Sp):Prop where
 len:∀vs H Q E,sp vs H Q E->vs.length=ps.length
 run:∀(A:Around) (outer:List Env) (s:Shared) (H:Hp) (args:Args) (us:List Value) (vs:List V) (Q:VK) (E:XK),Room k A->Env0 P w K mg base A outer s H->BindsTo s fd args (ps.zip us)->Vals vs us->sp vs H Q E ->
  codeAny (model P w) A (.call (.ref f) args) (CR CX outer P w H s Q E) s
theorem Env0.make {P:Program}{w:World}{K:W.Frag}{mg:Str->Option Value}{base:Heap}{A:Around}{outer:List Env}{s:Shared}{H:Hp}(e:Env0 P w K mg base A outer s H)(C:Addr)(us:List Value)(kw:List (Str×Value)) :
  Env0 P w K mg base (A.under (.builtin "type.__call__" ⟨.ref C::us,kw⟩)) outer s H:=⟨by first|exact e.frames|(simpa [Around.under,Code.envs,Code.isFrame,pushEnvs] using e.frames),e.mod,e.bs,e.bsz,e.funs,e.frf,e.hok,e.bare⟩
section
variable {X:Cx}{pins:List (Addr×Obj)}{Z:St}{H:Hp}{s s':Shared}
theorem Inv.env0 (I:Inv X pins Z H s):Env0 X.prog X.w X.K X.mg X.base X.A X.stack s H:=
 ⟨I.ok.frames,I.ok.mod,I.bs,Nat.le_trans I.ok.bsz I.sz,I.stack,I.stkFree,I.hok,I.bare⟩
theorem Inv.after {Q:VK}{u:Value}(I:Inv X pins Z H s)(h:CE X.stack X.prog X.w H s Q u s'):EP X pins Z Q u s':=by obtain⟨v,H',os,bare,un,hok,r,q⟩:=h;obtain⟨hh,g,d,t,os'⟩:=s';obtain rfl:os'=s.os:=os;exact⟨v,H',I.call (h':=hh) (g':=g) (d':=d) (t':=t) (ch:=[]) un hok bare (λb z=>absurd z (by simp)),r,q⟩
end
def tCall (sp:Sp)(dvs:List V)(E:XK)(t:TA):TE:=λZ H Q=>t Z H λvs H1=>sp (vs++dvs) H1 Q E
def tMeth (C:Addr)(m:Str)(sp:Sp)(dvs:List V)(E:XK)(ta:TE)(t:TA):TE:=λZ H Q=>ta Z H λx H1=>∃a dx fs,x=.ref a/\H1 a=some (.ins C dx fs)/\fs.lookup m=none/\
 t Z H1 λvs H2=>sp (x::(vs++dvs)) H2 Q E
def tMake (C:Addr)(sp:Sp)(dvs:List V)(E:XK)(t:TA):TE:=λZ H Q=>t Z H λvs H1=>∀x dx,H1 x=none->H1 dx=none->dx≠x ->
 sp (.ref x::(vs++dvs)) (upd (upd H1 dx (.own x)) x (.ins C dx [])) (λv H2=>v=.non/\Q (.ref x) H2) E
def Binds (K:W.Frag)(fd:FuncData)(ps:List Str)(ds:List Value):Prop:=
 ∀(s:Shared) (us:List Value),K.In s.heap->(us++ds).length=ps.length->BindsTo s fd ⟨us,[]⟩ (ps.zip (us++ds))
theorem Binds.all {K:W.Frag}{fd:FuncData}{ps:List Str}(h:∀us:List Value,us.length=ps.length->bindArgs fd ⟨us,[]⟩=pure (ps.zip us)):Binds K fd ps []:=λs us _ hl=>by rw[append_nil] at hl ⊢;exact .of_eq (h us hl)
def Passes (CX:CXT)(X:Cx)(E:XK):Prop:=∀(pins:List (Addr×Obj)) (Z:St) (H:Hp) (s:Shared) (e:Value) (s':Shared),Inv X pins Z H s->CX X.stack H s E e s'->X.xe e s'
section
variable {X:Cx}{CX:CXT}{k:Nat}{f C:Addr}{fd:FuncData}{ps:List Str}{sp:Sp}{dvs:List V}{ds:List Value}{E:XK}{x m:Str}{p pos apos:Pos}{e o:Expr}{es:List Expr}{ta:TE}{t:TA}
theorem dH {pins:List (Addr×Obj)}{Z:St}{H:Hp}{s:Shared}{Q:VK}{us:List Value}{vs:List V}(F:FnOk X.prog X.w X.K X.mg X.base CX k f fd ps sp)(hr:Room k X.A)(hb:Binds X.K fd ps ds)(hd:Vals dvs ds)(hx:Passes CX X E)
  (I:Inv X pins Z H s) (r:Vals vs us) (h:sp (vs++dvs) H Q E):wpAny (model X.prog X.w) X.A (call (.ref f) us) (EP X pins Z Q) X.xe s:=by
 have r2:Vals (vs++dvs) (us++ds):=r.append hd;have hl:(us++ds).length=ps.length:=by rw[<- r2.length];exact F.len _ _ _ _ h
 refine wpAny_call (codeAny_mono (F.run X.A X.stack s H ⟨us,[]⟩ (us++ds) (vs++dvs) Q E hr I.env0 (hb s us I.kIn hl) r2 h) λr s' hq=>?_);cases r with
 |error e=>exact hx pins Z H s e s' I hq
 |ok fl=>
  cases fl with
  |ret u=>exact I.after hq
  |next=>exact False.elim hq
  |brk=>exact False.elim hq
  |cont=>exact False.elim hq
theorem ag (F:FnOk X.prog X.w X.K X.mg X.base CX k f fd ps sp)(hr:Room k X.A)(hg:Gl X x)(hm:X.mg x=some (.ref f))(hk:PySem.W.keepIn X.K (.ref f)=true)(hb:Binds X.K fd ps ds)(hd:Vals dvs ds)(hx:Passes CX X E)
  (ha:PA X (e::es) t) (hdb:(x == ("__debug__" : Str))=false:=by decide) (he:starEach (e::es) X.env=(false,eval e X.env)::starEach es X.env:=by rfl) (hpl:(backTo pos (starEach es X.env)).any (·.1)=false:=by rfl) :
  PE X (.Call (.Name x p) (e::es) [] pos) (tCall sp dvs E t):=by
 intro pins s Z H Q I h;refine wpAny_Call_Name_kw (d9 I hg hm ?_ hdb);refine PySem.W.callWith_K (h₀:=X.base) I.ok.mod.kin hk (thn (ha pos pins s Z H _ I h) λus s1 ⟨vs,H1,I1,r,q⟩=>⟨I1.kIn,?_⟩) he hpl;exact dH F hr hb hd hx I1 r q
theorem tw (F:FnOk X.prog X.w X.K X.mg X.base CX k f fd ps sp)(hr:Room k X.A)(hg:Gl X x)(hm:X.mg x=some (.ref f))(hk:PySem.W.keepIn X.K (.ref f)=true)(hb:Binds X.K fd ps ds)(hd:Vals dvs ds)(hx:Passes CX X E)
  (hdb:(x == ("__debug__" : Str))=false:=by decide):PE X (.Call (.Name x p) [] [] pos) (tCall sp dvs E tNil):=by
 intro pins s Z H Q I h;refine wpAny_Call_Name_kw (d9 I hg hm ?_ hdb);exact PySem.W.callWith_K0 I.kIn hk (dH (us:=[]) F hr hb hd hx I .nil h)
theorem ac {pl:Sem Bool}(he:PE X o ta)(c:Cls X.K C)(hm:Meth X.K C m f)(F:FnOk X.prog X.w X.K X.mg X.base CX k f fd ps sp)(hr:Room k X.A)(hb:Binds X.K fd ps ds)(hd:Vals dvs ds)(hx:Passes CX X E)(ha:PA X (e::es) t)
  (hst:starEach (e::es) X.env=(false,eval e X.env)::starEach es X.env:=by rfl) (hpl:(backTo pos (starEach es X.env)).any (·.1)=false:=by rfl)
  (ht:eval (.Call (.Attribute o m apos) (e::es) [] pos) X.env=(do
   let ov <- eval o X.env
   standAt apos.atName
   let (f,first) <- holding [ov] (getMethod ov m pl)
   callWith pos f first (backTo pos (starEach (e::es) X.env)) (backToKw pos (keywordEach [] X.env))):=by rfl) :
  PE X (.Call (.Attribute o m apos) (e::es) [] pos) (tMeth C m sp dvs E ta t):=by
 intro dl s Z H Q I h;refine PySem.W.methodCall_KW (pl:=pl) (thn (he dl s Z H _ I h) λu s1 W'=>?_) ht;obtain⟨x,H1,I1,rx,a,dx,fs,ex,ea,l,q⟩:=W';subst ex;obtain rfl:u=Value.ref a:=rx;refine fW I1 ea c hm l ?_;refine PySem.W.callWith_K (first:=[.ref a]) (h₀:=X.base) I.ok.mod.kin hm.kp (thn (ha pos dl s1 Z H1 _ I1 q) λus s2 ⟨vs,H2,I2,r,q2⟩=>⟨I2.kIn,?_⟩) hst hpl;exact dH (us:=.ref a::us) (vs:=.ref a::vs) F hr hb hd hx I2 (.cons rfl r) q2
theorem bT {pl:Sem Bool}(he:PE X o ta)(c:Cls X.K C)(hm:Meth X.K C m f)(F:FnOk X.prog X.w X.K X.mg X.base CX k f fd ps sp)(hr:Room k X.A)(hb:Binds X.K fd ps ds)(hd:Vals dvs ds)(hx:Passes CX X E)
  (ht:eval (.Call (.Attribute o m apos) [] [] pos) X.env=(do
   let ov <- eval o X.env
   standAt apos.atName
   let (f,first) <- holding [ov] (getMethod ov m pl)
   callWith pos f first (backTo pos (starEach [] X.env)) (backToKw pos (keywordEach [] X.env))):=by rfl) :
  PE X (.Call (.Attribute o m apos) [] [] pos) (tMeth C m sp dvs E ta tNil):=by
 intro dl s Z H Q I h;refine PySem.W.methodCall_KW (pl:=pl) (thn (he dl s Z H _ I h) λu s1 W'=>?_) ht;obtain⟨x,H1,I1,rx,a,dx,fs,ex,ea,l,q⟩:=W';subst ex;obtain rfl:u=Value.ref a:=rx;refine fW I1 ea c hm l ?_;exact PySem.W.callWith_K0 (first:=[.ref a]) I1.kIn hm.kp (dH (us:=[.ref a]) (vs:=[.ref a]) F hr hb hd hx I1 (.cons rfl .nil) q)
structure Mk (K:W.Frag)(C f:Addr):Prop where
 makes:PySem.W.makesIn K C=true
 init:PySem.W.findIn K (.ref C) "__init__"=some (some (.ref f))
 fn:PySem.W.isFn K (.ref f)=true
 kp:PySem.W.keepIn K (.ref C)=true
theorem tz {pins:List (Addr×Obj)}{Z:St}{H:Hp}{s:Shared}{Q:VK}{us:List Value}{vs:List V}(M:Mk X.K C f)(F:FnOk X.prog X.w X.K X.mg X.base CX k f fd ps sp)(hr:Room (k+1) X.A)(hb:Binds X.K fd ps ds)(hd:Vals dvs ds)
  (hx:Passes CX X E) (I:Inv X pins Z H s) (r:Vals vs us)
  (h:∀x dx,H x=none->H dx=none->dx≠x->sp (.ref x::(vs++dvs)) (upd (upd H dx (.own x)) x (.ins C dx [])) (λv H2=>v=.non/\Q (.ref x) H2) E) :
  wpAny (model X.prog X.w) X.A (call (.ref C) us) (EP X pins Z Q) X.xe s:=by
 have hq:=h (s.heap.objs.size+1) s.heap.objs.size (I.hok.fresh (Nat.le_succ _)) (I.hok.fresh (Nat.le_refl _)) (Nat.ne_of_lt (Nat.lt_succ_self _));have I2:=Inv.made (C:=C) I;have r2:Vals (V.ref (s.heap.objs.size+1)::(vs++dvs)) (Value.ref (s.heap.objs.size+1)::(us++ds)):=.cons rfl (r.append hd);have hl:(Value.ref (s.heap.objs.size+1)::us++ds).length=ps.length:=by have e:=r2.length;rw[F.len _ _ _ _ hq] at e;exact e.symm
 refine wpAny_call (tR (f:=f) I.kIn M.makes M.init (beq_iff_eq.mp M.fn) (codeAny_mono (F.run _ X.stack _ _ ⟨Value.ref (s.heap.objs.size+1)::us,[]⟩ (Value.ref (s.heap.objs.size+1)::(us++ds)) _ _ E (hr.make C us [])
  (I2.env0.make C us []) (hb _ (Value.ref (s.heap.objs.size+1)::us) I2.kIn hl) r2 hq) λr s' dl=>?_))
 cases r with
 |error e=>exact hx pins Z _ _ e s' I2 dl
 |ok fl=>
  cases fl with
  |ret u=>obtain⟨v,H',I3,rv,ev,q3⟩:=I2.after dl;subst ev;exact⟨rv,⟨V.ref (s.heap.objs.size+1),H',I3,rfl,q3⟩⟩
  |next=>exact False.elim dl
  |brk=>exact False.elim dl
  |cont=>exact False.elim dl
theorem u0 (M:Mk X.K C f)(F:FnOk X.prog X.w X.K X.mg X.base CX k f fd ps sp)(hr:Room (k+1) X.A)(hg:Gl X x)(hm:X.mg x=some (.ref C))(hb:Binds X.K fd ps ds)(hd:Vals dvs ds)(hx:Passes CX X E)
  (ha:PA X (e::es) t) (hdb:(x == ("__debug__" : Str))=false:=by decide) (he:starEach (e::es) X.env=(false,eval e X.env)::starEach es X.env:=by rfl) (hpl:(backTo pos (starEach es X.env)).any (·.1)=false:=by rfl) :
  PE X (.Call (.Name x p) (e::es) [] pos) (tMake C sp dvs E t):=by
 intro pins s Z H Q I h;refine wpAny_Call_Name_kw (d9 I hg hm ?_ hdb);refine PySem.W.callWith_K (h₀:=X.base) I.ok.mod.kin M.kp (thn (ha pos pins s Z H _ I h) λus s1 ⟨vs,H1,I1,r,q⟩=>⟨I1.kIn,?_⟩) he hpl;exact tz M F hr hb hd hx I1 r q
end
section
variable {X:Cx}{CX:CXT}{k:Nat}{f C:Addr}{fd:FuncData}{ps ks:List Str}{sp:Sp}{E:XK}{x m:Str}{p pos apos kpos:Pos}{e o:Expr}{es:List Expr}{kws:List Keyword}{te ta:TE}{t tk:TA}{nm:Option Str}
structure KBinds (K:W.Frag)(fd:FuncData)(ps ks:List Str)(g:List Value->List Value->List Value)(gV:List V->List V->List V):Prop where
 to:∀(s:Shared) (us ws:List Value),K.In s.heap->(g us ws).length=ps.length->BindsTo s fd ⟨us,ks.zip ws⟩ (ps.zip (g us ws))
 rel:∀{vs:List V}{us:List Value}{zs:List V}{ws:List Value},Vals vs us->Vals zs ws->Vals (gV vs zs) (g us ws)
variable {g:List Value->List Value->List Value}{gV:List V->List V->List V}
end
structure FnScope (N P:List Str)(sc:Scope):Prop where
 kind:sc.kind=.function
 co:sc.isCoroutine=false
 gen:sc.isGenerator=false
 nd:N.Nodup
 pre:N.take P.length=P
 par:∀x∈P,sc.names.lookup x=some .local\/sc.names.lookup x=some .cell
 nofree:∀y∈sc.names,y.2≠.free
theorem jX {kindOf:Str->Option NameKind}{x:Str}:∀{binds:List (Str×Value)}{m:Str->Option Value},(∀v,(x,v)∉binds)->bindL kindOf binds m x=m x
 |[],_,_=>rfl
 | (n,v)::r,m,h=>by
  unfold bindL;rw[jX λw hw=>h w (mem_cons_of_mem _ hw)];split
  .have:x≠n:=by rintro rfl;exact h v mem_cons_self
   simp[this]
  .rfl
theorem jY {kindOf:Str->Option NameKind}{x:Str}:∀{binds:List (Str×Value)}{m:Str->Option Value},(∀v,(x,v)∉binds)->bindC kindOf binds m x=m x
 |[],_,_=>rfl
 | (n,v)::r,m,h=>by
  unfold bindC;rw[jY λw hw=>h w (mem_cons_of_mem _ hw)];split
  .rfl
  .have:x≠n:=by rintro rfl;exact h v mem_cons_self
   simp[this]
theorem jZ {kindOf:Str->Option NameKind}{x:Str}{v:Value}:∀{P:List Str}{vs:List Value}{i:Nat}{m:Str->Option Value},P.Nodup->P[i]?=some x->vs[i]?=some v->kindOf x=some .local ->
  bindL kindOf (P.zip vs) m x=some v
 |[],_,_,_,_,h,_,_=>by simp at h
 |_::_,[],_,_,_,_,h,_=>by simp at h
 |p::P,w::vs,0,m,nd,h1,h2,hk=>by simp at h1 h2;subst h1;subst h2;show bindL kindOf ((p,w)::P.zip vs) m p=_;unfold bindL;rw[jX λv hv=>(nodup_cons.mp nd).1 (of_mem_zip hv).1,if_pos hk];simp
 |p::P,w::vs,i+1,m,nd,h1,h2,hk=>by show bindL kindOf ((p,w)::P.zip vs) m x=_;unfold bindL;exact jZ (i:=i) (nodup_cons.mp nd).2 (by simpa using h1) (by simpa using h2) hk
theorem ja {kindOf:Str->Option NameKind}{x:Str}{v:Value}:∀{P:List Str}{vs:List Value}{i:Nat}{m:Str->Option Value},P.Nodup->P[i]?=some x->vs[i]?=some v->kindOf x≠some .local ->
  bindC kindOf (P.zip vs) m x=some v
 |[],_,_,_,_,h,_,_=>by simp at h
 |_::_,[],_,_,_,_,h,_=>by simp at h
 |p::P,w::vs,0,m,nd,h1,h2,hk=>by simp at h1 h2;subst h1;subst h2;show bindC kindOf ((p,w)::P.zip vs) m p=_;unfold bindC;rw[jY λv hv=>(nodup_cons.mp nd).1 (of_mem_zip hv).1,if_neg hk];simp
 |p::P,w::vs,i+1,m,nd,h1,h2,hk=>by show bindC kindOf ((p,w)::P.zip vs) m x=_;unfold bindC;exact ja (i:=i) (nodup_cons.mp nd).2 (by simpa using h1) (by simpa using h2) hk
noncomputable def start (N:List Str)(vs:List V):St:=vs.map some++List.replicate (N.length - vs.length) none
noncomputable def cxOf (CX:CXT)(P:Program)(w:World)(K:W.Frag)(mg:Str->Option Value)(base:Heap)(N:List Str)(qual:Str)(scope:Scope)(f:Addr)(cd:Value)(A:Around)(outer:List Env)(s:Shared)(H:Hp)(E:XK):Cx where
 prog:=P
 w:=w
 K:=K
 mg:=mg
 base:=base
 A:=A.deeper (envOfC qual scope s.heap.objs.size f cd)
 N:=N
 s₀:=s
 H₀:=H
 env:=envOfC qual scope s.heap.objs.size f cd
 outer:=outer
 stack:=envOfC qual scope s.heap.objs.size f cd::outer
 ex:=[]
 calm:=true
 fn:=λ_=>true
 pn:=[]
 xe:=λe s'=>wpAny (model P w) (A.deeper (envOfC qual scope s.heap.objs.size f cd)) (leaving (envOfC qual scope s.heap.objs.size f cd) e) (λ_ s''=>CX outer H s E e s'') (λe' s''=>CX outer H s E e' s'') s'
theorem jb {sc:Scope}{n:Nat}{x:Str}(h:sc.names.lookup x=some .cell):∃c,(cellsFrom n sc.names []).lookup x=some c:=by have q:=PySem.W.cellsFrom_some sc.names n [] (.inl h);exact Option.isSome_iff_exists.mp q
theorem u8 {CX:CXT}{P:Program}{w:World}{K:W.Frag}{mg:Str->Option Value}{base:Heap}{N ps:List Str}{qual:Str}{scope:Scope}{f:Addr}{cd:Value}{A:Around}{outer:List Env}{s s1:Shared}{H:Hp}{E:XK}{us:List Value}{vs:List V}
  (S:FnScope N ps scope) (hd:A.handled=none) (e0:Env0 P w K mg base A outer s H) (hl:vs.length=ps.length) (r:Vals vs us)
  (x:InCallC s s.heap.objs.size (bindL (envOfC qual scope s.heap.objs.size f cd).kindOf (ps.zip us) λ_=>none) (cellsFrom (s.heap.objs.size+1) scope.names []) (bindC (envOfC qual scope s.heap.objs.size f cd).kindOf (ps.zip us) λ_=>none) s1) :
  Inv (cxOf CX P w K mg base N qual scope f cd A outer s H E) [] (start N vs) H s1:=by
 have mt:ps.length<=N.length:=by have:=congrArg List.length S.pre;rw[length_take] at this;lia
 obtain⟨h1,tk,rfl,hk⟩:=x.done;have dl:∀b:Addr,b∉(cxOf CX P w K mg base N qual scope f cd A outer s H E).ex:=λb z=>absurd (show b∈([]:List Addr) from z) (by simp);refine⟨⟨e0.mod,S.kind,rfl,rfl,Nat.le_refl _,λy z c h1 h2=>?_,λy hy=>?_,λy c _ h=>?_,λ_=>hd,Around.frames_deeper e0.frames,.inr ⟨rfl,rfl⟩,λb z=>absurd z (dl b),e0.bs,e0.bsz,λb _ _=>dl b,λb z=>absurd z (dl b),e0.funs,e0.frf⟩,
  rfl,e0.bare,Un.kept hk,⟨_,x.toInCall.ns,λi y v h1 h2 h3=>?_⟩,λy c h=>⟨_,x.cell y c h⟩,e0.hok.fresh (Nat.le_refl _),λy c h=>?_,λp hp=>absurd (show p∈([]:List (Addr×Obj)) from hp) (by simp),e0.hok.kept hk,?_⟩
 .exact name_of_addr x.apart (PySem.mem_of_lookup h1) (PySem.mem_of_lookup h2)
 .have hy:scope.names.lookup y=some .cell\/scope.names.lookup y=some .free:=hy;rcases hy with hy|hy
  .exact jb hy
  .exact absurd rfl (S.nofree _ (PySem.mem_of_lookup hy))
 .exact Nat.le_of_lt (x.above y c (PySem.mem_of_lookup h))
 .have hi:i < vs.length:=by
   unfold start at h2;by_cases hi:i < vs.length
   .exact hi
   .rw[List.getElem?_append_right (by simpa using hi)] at h2;rw[List.getElem?_replicate] at h2;split at h2 <;> cases h2
  have ha:vs[i]?=some v:=by
   unfold start at h2;rw[List.getElem?_append_left (by simpa using hi),List.getElem?_map] at h2;cases e:vs[i]? with
   |none=>rw[e] at h2;cases h2
   |some a=>rw[e] at h2;cases h2;rfl
  obtain⟨u,hu,rv⟩:=r.get ha;have hp:ps[i]?=some y:=by rw[<- S.pre,List.getElem?_take_of_lt (by lia)];exact h1
  have ld:ps.Nodup:=by rw[<- S.pre];exact S.nd.sublist (List.take_sublist _ _)
  refine⟨u,rv,?_⟩;rcases S.par y (mem_of_getElem? hp) with k|k
  .exact .inl ⟨k,jZ ld hp hu k⟩
  .obtain⟨c,e⟩:=jb (n:=s.heap.objs.size+1) k;refine .inr ⟨.inl k,c,e,?_⟩;have q:=x.cell y c e;rw[ja ld hp hu (by show scope.names.lookup y≠_;rw[k];decide)] at q;exact q
 .exact e0.hok.fresh (Nat.le_of_lt (x.above y c (PySem.mem_of_lookup h)))
 .unfold start;show _=N.length;rw[length_append,length_map,length_replicate];lia
theorem jc {CX:CXT}{P:Program}{w:World}{K:W.Frag}{mg:Str->Option Value}{base:Heap}{k:Nat}{f:Addr}{name qual:Str}{params:Arguments}{body:List Stmt}{scope:Scope}{dV kV doc pm cdv ct oc:Value}{an od:Option Addr}
  {osl:Array (Option Value)}{N ps:List Str}{sp:Sp} (lk:K.lookup f=some ⟨oc,od,.func (PySem.W.fnOf name qual params body scope dV kV doc pm an cdv ct),osl⟩) (hcd:PySem.W.codeIn K cdv qual=true) (S:FnScope N ps scope)
  (len:∀vs H Q E,sp vs H Q E->vs.length=ps.length)
  (hbody:∀(A:Around) (outer:List Env) (s:Shared) (H:Hp) (vs:List V) (Q:VK) (E:XK),Room k (A.deeper (envOfC qual scope s.heap.objs.size f cdv))->sp vs H Q E ->
   ∃t,PSs (cxOf CX P w K mg base N qual scope f cdv A outer s H E) body t/\t {nx:=λ_ H'=>Q .non H',rt:=Q} (start N vs) H) :
  FnOk P w K mg base CX (k+1) f (PySem.W.fnOf name qual params body scope dV kV doc pm an cdv ct) ps sp:=by
 refine⟨len,λA outer s H Cl us vs Q E hr e0 hb r ld=>?_⟩;have hl:=len _ _ _ _ ld;have KX:K.In s.heap:=e0.mod.kin.keeps λb o e=>(e0.bs b o e).1;have BT:s.heap.NoLimit:=e0.mod.nolimit.keeps λb o e=>(e0.bs b o e).1;have dl:∀y∈ps.zip us,scope.names.lookup y.1=some .local\/(scope.names.lookup y.1=some .cell/\((cellsFrom (s.heap.objs.size+1) scope.names []).lookup y.1).isSome=true):=λ⟨n,v⟩ hy=>by
  rcases S.par n (of_mem_zip hy).1 with q|q
  .exact .inl q
  .exact .inr ⟨q,PySem.W.cellsFrom_some _ _ _ (.inl q)⟩
 refine codeAny_call_function hr.depth (KX _ _ lk) rfl S.co S.gen rfl (PySem.W.codeRec_of KX hcd) (hb _ _ _ _ ?_);refine wpAny_newFunctionEnv_cells S.kind dl λEW he s1 x=>?_;subst he;refine⟨BT.keeps x.toInCall.keep,codeAny_func ?_⟩;obtain⟨t,ht,hq⟩:=hbody A outer s H vs Q E (hr.deeper _) ld;have I:Inv (cxOf CX P w K mg base N qual scope f cdv A outer s H E) [] (start N vs) H s1:=u8 S hr.hd e0 hl r x;refine wpAny_mono (ht [] s1 (start N vs) H _ I hq) (λfl s' hs=>?_) λe s' hs=>hs;have mt:∀{Z':St}{H':Hp}{v:V}{u:Value},Inv (cxOf CX P w K mg base N qual scope f cdv A outer s H E) [] Z' H' s'->RelV v u->Q v H'->CE outer P w H s Q u s':=
  λ{Z' H' v u} J rv q=>⟨v,H',J.os,J.bare,J.base,J.hok,rv,q⟩
 cases fl with
 |ret u=>obtain⟨v,Z',H',J,rv,q⟩:=hs;exact mt J rv q
 |next=>obtain⟨Z',H',J,q⟩:=hs;exact mt (v:=V.non) (u:=Value.none) J rfl q
 |brk=>obtain⟨_,_,_,q⟩:=hs;exact False.elim q
 |cont=>obtain⟨_,_,_,q⟩:=hs;exact False.elim q
section
variable {X:Cx}{x:Str}{p pos:Pos}{e:Expr}{es:List Expr}{t:TA}{id T:String}{r:List V->Hp->VK->Prop}
def tCB (r:List V->Hp->VK->Prop)(t:TA):TE:=λZ H Q=>t Z H λvs H1=>r vs H1 Q
theorem bj (hc:CallR X (.builtin id) r)(hg:Gl X x)(hm:X.mg x=none)(hv:bootBuiltins x=some (.builtin id))(ha:PA X (e::es) t)(hn:x ≠ "__name__" := by decide)(hdb:(x == ("__debug__" : Str))=false:=by decide)
  (he:starEach (e::es) X.env=(false,eval e X.env)::starEach es X.env:=by rfl) (hpl:(backTo pos (starEach es X.env)).any (·.1)=false:=by rfl):PE X (.Call (.Name x p) (e::es) [] pos) (tCB r t):=by
 intro pins s Z H Q I h;refine wpAny_Call_Name_kw (az I hg hm hv ?_ hn hdb);exact PyProof.Rows.callWith_builtin1 (thn (ha pos pins s Z H _ I h) λus s1 ⟨vs,H1,I1,r1,q1⟩=>hc pins s1 Z H1 vs us Q I1 r1 q1) he hpl
theorem bU (hc:CallR X (.type T) r)(hg:Gl X x)(hm:X.mg x=none)(hv:bootBuiltins x=some (.type T))(ha:PA X (e::es) t)(hn:x ≠ "__name__" := by decide)(hdb:(x == ("__debug__" : Str))=false:=by decide)
  (he:starEach (e::es) X.env=(false,eval e X.env)::starEach es X.env:=by rfl) (hpl:(backTo pos (starEach es X.env)).any (·.1)=false:=by rfl):PE X (.Call (.Name x p) (e::es) [] pos) (tCB r t):=by
 intro pins s Z H Q I h;refine wpAny_Call_Name_kw (az I hg hm hv ?_ hn hdb);exact PyProof.Rows.callWith_type1 (thn (ha pos pins s Z H _ I h) λus s1 ⟨vs,H1,I1,r1,q1⟩=>hc pins s1 Z H1 vs us Q I1 r1 q1) he hpl
end
end L2
namespace HT
open PySem PyProof.Rows
noncomputable def lexLt:List Int->List Int->Bool
 |[],[]=>false
 |[],_::_=>true
 |_::_,[]=>false
 |x::xs,y::ys=>if x=y then lexLt xs ys else decide (x < y)
theorem uA (x y:Int)(xs ys:List Int):lexLt (x::xs) (y::ys)=if x=y then lexLt xs ys else decide (x < y):=rfl
theorem uB:lexLt [] []=false:=rfl
theorem uC (y:Int)(ys:List Int):lexLt [] (y::ys)=true:=rfl
theorem uD (x:Int)(xs:List Int):lexLt (x::xs) []=false:=rfl
theorem uE (A:Around)(s:Shared)(a:Int)(t:Tok)(c:Int)(u:Tok):∃e,SeqAt.EqAt A s (.int a t) (.int c u) e/\(e=true↔a=c):=
 ⟨(a == c),SeqAt.EqAt.int_int a t c u,by simp⟩
section
open PySem.SeqAt
open PySem.AutoSeq1 (wpAny_loadPart')
open PySem.MeetsSeq PySem.MeetsSeq2 PySem.MeetsSeq3
end
section
variable {prog:Program}{w:World}{A:Around}{E:Value->Shared->Prop}{s:Shared}
theorem cat_tup {t b:Addr}{vs ws:List Value}{Q:Value->Shared->Prop}(ht:IsTup s.heap t vs.toArray)(hb:IsTup s.heap b ws.toArray)(hv:vs≠[])
  (h1:ws=[]->Q (.ref t) s) (h2:ws≠[]->Q (.ref s.heap.objs.size) {s with heap:=s.heap.push {cls:=.type "tuple",data:=.seq (vs++ws).toArray} })
  (hsz:vs.length+ws.length<=sizeLine):wpAny (model prog w) A (binaryOp .Add (.ref t) (.ref b)) Q E s:=by
 obtain⟨⟨cls,dd,data,sl⟩,ho,hc,n,hd⟩:=id ht;obtain⟨⟨EX,Cl,EW,ld⟩,dl,BT,n2,mt⟩:=id hb;simp only at hc hd BT mt;subst hc hd BT mt;have e:vs.toArray++ws.toArray=(vs++ws).toArray:=by simp
 by_cases hw:ws=[]
 .exact concat_meets ⟨_,ho,rfl⟩ ⟨_,dl,rfl⟩ noFill_tuple_add seq_tuple_add PySem.F.slot_tuple_add PySem.F.entry_tuple_add (PySem.F.args_tuple_add_2 _ _)
   (tuple_addW1 t b vs.toArray ws.toArray n n2 dd Cl sl ld (by simpa using hv) (by simp[hw])) ⟨ho,dl,h1 hw⟩
 .refine concat_meets ⟨_,ho,rfl⟩ ⟨_,dl,rfl⟩ noFill_tuple_add seq_tuple_add PySem.F.slot_tuple_add PySem.F.entry_tuple_add (PySem.F.args_tuple_add_2 _ _)
   (tuple_addW2 t b vs.toArray ws.toArray n n2 dd Cl sl ld (by simpa using hv) (by simpa using hw) (by rw[size_toArray,size_toArray];exact hsz)) ⟨ho,dl,?_⟩
  rw[e];exact h2 hw
noncomputable def sIx (n d:Nat):Option Int->Nat
 |none=>d
 |some v=>if v < 0 then (v+(n:Int)).toNat else min v.toNat n
theorem sIx_none (n d:Nat):sIx n d none=d:=rfl
theorem sIx_nat (n d k:Nat):sIx n d (some (k:Int))=min k n:=by show (if (k:Int) < 0 then ((k:Int)+(n:Int)).toNat else min (k:Int).toNat n)=min k n;rw[if_neg (by lia),Int.toNat_natCast]
theorem uF (n d:Nat)(hd:d<=n)(o:Option Int):sIx n d o<=n:=by
 cases o with
 |none=>exact hd
 |some v=>
  show (if v < 0 then (v+(n:Int)).toNat else min v.toNat n)<=n;by_cases hv:v < 0
  .rw[if_pos hv];lia
  .rw[if_neg hv];exact Nat.min_le_right _ _
theorem jd (v:Int)(n d:Nat):(if v < 0 then max (v+(n:Int)) 0 else min v (n:Int))=((sIx n d (some v):Nat):Int):=by
 show (if v < 0 then max (v+(n:Int)) 0 else min v (n:Int))=(((if v < 0 then (v+(n:Int)).toNat else min v.toNat n):Nat):Int);by_cases hv:v < 0
 .simp only[if_pos hv];lia
 .simp only[if_neg hv];lia
theorem uG (lo hi:Option Int)(n:Nat):Builtin.Slice.sliceAdjust lo hi 1 (n:Int)=(((sIx n 0 lo:Nat):Int),((sIx n n hi:Nat):Int)):=by
 have h1:¬ ((1:Int) < 0):=by lia
 unfold Builtin.Slice.sliceAdjust;simp only[h1,if_false];refine Prod.ext ?_ ?_
 .cases lo with
  |none=>rfl
  |some v=>exact jd v n 0
 .cases hi with
  |none=>rfl
  |some v=>exact jd v n n
theorem uH (i j:Nat):Builtin.Slice.slicePlaces (i:Int) (j:Int) 1=j - i:=by
 unfold Builtin.Slice.slicePlaces;have h1:(1:Int) > 0:=by lia
 simp only[h1,if_true,Int.ediv_one];split <;> lia
theorem je {v:Value}{o:Option Int}{Q:Option Int->Shared->Prop}(p:IsPart v o)(h:Q o s):wpAny (model prog w) A (Builtin.Slice.slicePartIndex v) Q E s:=by
 cases p with
 |none=>exact slicePart_none h
 |int i t=>exact slicePart_int h
theorem jf {sl:Addr}{vl vu:Value}{lo hi:Option Int}{n:Nat}{Q:Int×Int×Nat->Shared->Prop}(hs:s.heap.IsSliceOf sl vl vu .none)(pl:IsPart vl lo)(pu:IsPart vu hi)
  (h:Q (((sIx n 0 lo:Nat):Int),1,sIx n n hi - sIx n 0 lo) s):wpAny (model prog w) A (Builtin.Slice.sliceApplied (.ref sl) (pure (n:Int))) Q E s:=by
 obtain⟨os,dl,mt,ld⟩:=id hs;unfold Builtin.Slice.sliceApplied Builtin.Slice.sliceFields;refine wpAny_bind (wpAny_bind (wpAny_field dl ld (x:=vl) rfl (wpAny_bind (wpAny_field dl ld (x:=vu) rfl (wpAny_bind (wpAny_field dl ld (x:=.none) rfl (wpAny_pure ?_)))))));refine wpAny_bind (slicePart_none ?_);show wpAny _ _ (if ((1:Int) == 0)=true then _ else _) _ _ s;rw[if_neg (by decide)];refine wpAny_bind (je pl (wpAny_bind (je pu (wpAny_bind (wpAny_pure ?_)))));show wpAny _ _ (match Builtin.Slice.sliceAdjust lo hi 1 (n:Int) with|(lo,hi)=>pure (lo,(1:Int),Builtin.Slice.slicePlaces lo hi 1)) _ _ s;rw[uG lo hi n];show wpAny _ _ (pure (((sIx n 0 lo:Nat):Int),(1:Int),Builtin.Slice.slicePlaces ((sIx n 0 lo:Nat):Int) ((sIx n n hi:Nat):Int) 1)) _ _ s;rw[uH];exact wpAny_pure h
theorem uI (xs:Array Value)(i k:Nat):((List.range k).filterMap λ(m:Nat)=>xs[((i:Int)+(m:Int) * 1).toNat]?).toArray=((xs.toList.drop i).take k).toArray:=by
 have e:(λ(m:Nat)=>xs[((i:Int)+(m:Int) * 1).toNat]?)=λm=>xs[i+m]?:=by
  funext m
  have:((i:Int)+(m:Int) * 1).toNat=i+m:=by lia
  rw[this]
 rw[e];have:=pick_run xs i k;rw[List.filterMap_map] at this;have e2:((λx=>xs[x]?) ∘ λx=>i+x)=λm=>xs[i+m]?:=rfl;rw[e2] at this;rw[this]
theorem getItem_tuple_cut {t sl:Addr}{items:Array Value}{vl vu:Value}{lo hi:Option Int}{Q:Value->Shared->Prop}(ht:IsTup s.heap t items)(hs:s.heap.IsSliceOf sl vl vu .none)(pl:IsPart vl lo)(pu:IsPart vu hi)
  (hw:¬ (sIx items.size 0 lo=0/\sIx items.size items.size hi=items.size))
  (h:Q (.ref s.heap.objs.size) {s with heap:=s.heap.push {cls:=.type "tuple",data:=.seq ((items.toList.drop (sIx items.size 0 lo)).take (sIx items.size items.size hi - sIx items.size 0 lo)).toArray} })
  (hsz:items.size<=sizeLine):wpAny (model prog w) A (getItem (.ref t) (.ref sl)) Q E s:=by
 have dl:sizeOk (.seq ((items.toList.drop (sIx items.size 0 lo)).take (sIx items.size items.size hi - sIx items.size 0 lo)).toArray):=by show ((items.toList.drop (sIx items.size 0 lo)).take (sIx items.size items.size hi - sIx items.size 0 lo)).toArray.size<=sizeLine;rw[size_toArray,length_take,length_drop,Array.length_toList];lia
 have hj:sIx items.size items.size hi<=items.size:=uF _ _ (Nat.le_refl _) hi;obtain⟨os,ld,BT,EW⟩:=id hs;have Cl:s.TypeIs (.ref sl) "slice" := ⟨os,ld,BT⟩;unfold getItem;try with_reducible refine wpAny_holding ?_
 first|refine wpAny_bind (wpAny_pure ?_)|skip
 refine wpAny_bind (wpAny_sequenceKey ht.typeIs (by decide) ?_);refine wpAny_bind (wpAny_callSpecial?_slot (name:=ofString "__getitem__") ht.typeIs PyProof.Rows.slot_tuple_getitem
  (wpAny_call_entry PyProof.Rows.slot_tuple_getitem ht.typeIs entry_tuple_getitem ?_ (args_tuple_getitem _ _)))
 show wpAny _ _ (Builtin.Tuple.tupleItemsOf (.ref t) >>= _) _ _ s;refine wpAny_bind (tupleItemsOf_ ht ?_);refine wpAny_bind (wpAny_typeOf Cl ?_);rw[if_pos (by decide)];refine wpAny_bind (jf hs pl pu ?_);have mt:¬ ((((sIx items.size 0 lo:Nat):Int) == 0 && (1:Int) == 1 && (sIx items.size items.size hi - sIx items.size 0 lo) == items.size)=true):=by intro q;rw[Bool.and_eq_true,Bool.and_eq_true] at q;have q1:((sIx items.size 0 lo:Nat):Int)=0:=eq_of_beq q.1.1;have q2:sIx items.size items.size hi - sIx items.size 0 lo=items.size:=eq_of_beq q.2;exact hw ⟨by lia,by lia⟩
 show wpAny _ _ (if (((sIx items.size 0 lo:Nat):Int) == 0 && (1:Int) == 1 && (sIx items.size items.size hi - sIx items.size 0 lo) == items.size)=true then _ else _) _ _ s;rw[if_neg mt,uI];first
  |exact wpAny_bind (m:=Builtin.Tuple.tupleExact _) (wpAny_newObj_type (wpAny_pure ⟨_,rfl,wpAny_pure h⟩) dl)
  |exact wpAny_bind (m:=Builtin.Tuple.tupleExact _) (wpAny_newObj_type (wpAny_bind (wpAny_pure (wpAny_pure ⟨_,rfl,wpAny_pure h⟩))) dl)
  |exact wpAny_bind (wpAny_bind (m:=Builtin.Tuple.tupleExact _) (wpAny_newObj_type (wpAny_pure (wpAny_pure ⟨_,rfl,wpAny_pure h⟩)) dl))
  |exact wpAny_bind (wpAny_bind (m:=Builtin.Tuple.tupleExact _) (wpAny_newObj_type (wpAny_pure ⟨_,rfl,wpAny_pure h⟩) dl))
end
end HT
namespace L2
open PySem PySem.Spec PyProof.Rows
noncomputable abbrev TO:=St->Hp->(Option Int->Hp->Prop)->Prop
def PO (X:Cx)(e:Option Expr)(t:TO):Prop:=
 ∀(pins:List (Addr×Obj)) (s:Shared) (Z:St) (H:Hp) (Q:Option Int->Hp->Prop),Inv X pins Z H s->t Z H Q ->
  wpAny (model X.prog X.w) X.A (evalPart e X.env) (λu s'=>∃o H',Inv X pins Z H' s'/\IsPart u o/\Q o H') X.xe s
def tNoPart:TO:=λ_ H Q=>Q none H
def tPart (t:TE):TO:=λZ H Q=>t Z H λx H1=>∃i,x=.int i/\Q (some i) H1
theorem jg {ns:List Int}:∀{us:List Value},Vals (ns.map V.int) us->IntsAre us ns:=by
 induction ns with
 |nil=>intro us r;rw[map_nil] at r;cases r;exact .nil
 |cons n ns ih=>
  intro us r;rw[map_cons] at r;cases r with
  |cons r1 r2=>obtain⟨t,e⟩:=r1;subst e;exact .cons n t (ih r2)
section
variable {X:Cx}{e:Expr}{te:TE}{lo hi:Option Expr}{tl th:TO}{pos p2:Pos}
theorem dI:PO X none tNoPart:=by intro pins s Z H Q I h;rw[evalPart_none];exact wpAny_pure ⟨none,H,I,.none,h⟩
theorem fX (h:PE X e te):PO X (some e) (tPart te):=by intro pins s Z H Q I hw;rw[evalPart_some];refine thn (h pins s Z H _ I hw) λu s1 W'=>?_;obtain⟨x,H1,I1,r1,q1⟩:=W';obtain⟨i,rfl,q⟩:=q1;obtain⟨t,rfl⟩:=r1;exact⟨some i,H1,I1,.int i t,q⟩
def SlR (X:Cx)(r:V->Option Int->Option Int->Hp->VK->Prop):Prop:=
 ∀(pins:List (Addr×Obj)) (s:Shared) (Z:St) (H:Hp) (x:V) (v vl vu:Value) (lo hi:Option Int) (sl:Addr) (Q:VK),Inv X pins Z H s->RelV x v->s.heap.IsSliceOf sl vl vu .none->IsPart vl lo->IsPart vu hi->r x lo hi H Q ->
  ∃T id,typeLookup (.type T) "__getitem__"=pure (some (.builtin id))/\s.TypeIs v T/\wpAny (model X.prog X.w) X.A (getItem v (.ref sl)) (EP X pins Z Q) X.xe s
theorem SlR.or {r r':V->Option Int->Option Int->Hp->VK->Prop}(h:SlR X r)(h':SlR X r'):SlR X (λx lo hi H Q=>r x lo hi H Q\/r' x lo hi H Q):=by
 intro pins s Z H x v vl vu lo hi sl Q I rx hs pl pu q;rcases q with q|q
 .exact h pins s Z H x v vl vu lo hi sl Q I rx hs pl pu q
 .exact h' pins s Z H x v vl vu lo hi sl Q I rx hs pl pu q
def tSl (r:V->Option Int->Option Int->Hp->VK->Prop)(te:TE)(tl th:TO):TE:=λZ H Q=>te Z H λx H1=>tl Z H1 λl H2=>th Z H2 λu H3=>r x l u H3 Q
theorem jh {r:V->Option Int->Option Int->Hp->VK->Prop}(hr:SlR X r)(he:PE X e te)(hl:PO X lo tl)(hu:PO X hi th):PE X (.Subscript e (.Slice lo hi none p2) pos) (tSl r te tl th):=by intro dl s Z H Q I h;refine Subscript_ (thn (he dl s Z H _ I h) λv s1 W'=>?_);obtain⟨x,H1,I1,r1,q1⟩:=W';refine wpAny_Slice (thn (hl dl s1 Z H1 _ I1 q1) λvl s2 ⟨l,H2,I2,pl,q2⟩=>thn (hu dl s2 Z H2 _ I2 q2) λvu s3 W'=>?_);obtain⟨u,H3,I3,pu,q3⟩:=W';rw[evalPart_none];refine wpAny_pure ?_;have I4:Inv X dl Z H3 {s3 with heap:=s3.heap.push {cls:=.type "slice",data:=.fields #[vl,vu,.none]} }:=I3.kept (t':=s3.toks) λb ob q=>Heap.get?_push_of_some _ q;obtain⟨T,id,hT,ht,hg⟩:=hr dl {s3 with heap:=s3.heap.push {cls:=.type "slice",data:=.fields #[vl,vu,.none]} } Z H3 x v vl vu l u s3.heap.objs.size Q I4 r1 (Heap.IsSliceOf.new ..) pl pu q3;show wpAny (model X.prog X.w) X.A (subscriptTail e (.Slice lo hi none p2) v (.ref s3.heap.objs.size)) (EP X dl Z Q) X.xe {s3 with heap:=s3.heap.push {cls:=.type "slice",data:=.fields #[vl,vu,.none]} };exact tail_any (ops:=[.ref s3.heap.objs.size,v]) ht hT hg (by with_unfolding_all rfl)
noncomputable def cutV (xs:List V)(lo hi:Option Int):List V:=(xs.drop (HT.sIx xs.length 0 lo)).take (HT.sIx xs.length xs.length hi - HT.sIx xs.length 0 lo)
theorem ji (xs:List V)(lo hi:Option Int):(cutV xs lo hi).length<=xs.length:=by unfold cutV;rw[length_take,length_drop];lia
def rSlT (K:W.Frag):V->Option Int->Option Int->Hp->VK->Prop:=λx lo hi H Q=>∃a xs,x=.ref a/\SqT K H a xs/\
 ¬ (HT.sIx xs.length 0 lo=0/\HT.sIx xs.length xs.length hi=xs.length)/\∀p,H p=none->Q (.ref p) (upd H p (.tup (cutV xs lo hi)))
theorem uJ:SlR X (rSlT X.K):=by
 intro ld s Z H x v vl vu lo hi sl Q I rx hs pl pu h;obtain⟨a,xs,rfl,hx,hw,q⟩:=h;cases rx;obtain⟨mt,r,ht,hz⟩:=I.tuple hx;have dl:mt.toArray.size=xs.length:=by rw[size_toArray];exact r.length.symm
 refine⟨"tuple",_,PyProof.Rows.slot_tuple_getitem.lookup,ht.typeIs,?_⟩;refine HT.getItem_tuple_cut ht hs pl pu (by rw[dl];exact hw) ?_ (by rw[dl];exact hz);rw[dl];refine⟨.ref s.heap.objs.size,_,I.laid (t':=s.toks) (o:=.tup (cutV xs lo hi)) (λb ob q=>Heap.get?_push_of_some _ q) (Nat.le_refl _) ?_,rfl,q _ (I.hok.fresh (Nat.le_refl _))⟩;exact⟨Nat.le_trans (ji xs lo hi) hz,_,(r.drop (HT.sIx xs.length 0 lo)).take (HT.sIx xs.length xs.length hi - HT.sIx xs.length 0 lo),IsTup.new _ _⟩
def rCatT (K:W.Frag):R2:=λx y H Q=>∃a b xs ys,x=.ref a/\y=.ref b/\SqT K H a xs/\SqT K H b ys/\xs≠[]/\xs.length+ys.length<=sizeLine/\
 (ys=[]->Q (.ref a) H)/\(ys≠[]->∀p,H p=none->Q (.ref p) (upd H p (.tup (xs++ys))))
theorem Vals.nil_iff {xs:List V}{us:List Value}(r:Vals xs us):us=[]↔xs=[]:=by
 cases r with
 |nil=>simp
 |cons _ _=>simp
theorem uK:OpR X (binaryOp .Add) (rCatT X.K):=by intro dl s Z H x y v u Q I rx ry h;obtain⟨a,b,xs,ys,rfl,rfl,ha,hb,hx,hz,q1,q2⟩:=h;cases rx;cases ry;obtain⟨mt,r1,p1,_⟩:=I.tuple ha;obtain⟨ld,r2,p2,_⟩:=I.tuple hb;refine HT.cat_tup p1 p2 (λz=>hx (r1.nil_iff.mp z)) (λz=>⟨.ref a,H,I,rfl,q1 (r2.nil_iff.mp z)⟩) (λz=>?_) (by rw[<- r1.length,<- r2.length];exact hz);refine⟨.ref s.heap.objs.size,_,I.laid (t':=s.toks) (o:=.tup (xs++ys)) (λb ob q=>Heap.get?_push_of_some _ q) (Nat.le_refl _) ?_,rfl,q2 (λw=>z (r2.nil_iff.mpr w)) _ (I.hok.fresh (Nat.le_refl _))⟩;exact⟨by rw[length_append];exact hz,_,r1.append r2,IsTup.new _ _⟩
end
noncomputable def ixN (n:Nat)(i:Int):Option Nat:=if 0<=i then (if i < n then some i.toNat else none) else if -(n:Int)<=i then some (i+n).toNat else none
noncomputable def atI {α:Type}(xs:List α)(i:Int):Option α:=(ixN xs.length i).bind λj=>xs[j]?
theorem jj {n:Nat}{i:Int}{j:Nat}(h:ixN n i=some j):seqIndex? i n=some j/\j < n/\-(n:Int)<=i/\i < n:=by
 unfold ixN at h;by_cases h0:0<=i
 .rw[if_pos h0] at h;by_cases h1:i < n
  .rw[if_pos h1] at h;have e:i.toNat=j:=Option.some.inj h;exact⟨by rw[seqIndex_of h0 h1,e],by lia,by lia,h1⟩
  .rw[if_neg h1] at h;cases h
 .rw[if_neg h0] at h;by_cases h1:-(n:Int)<=i
  .rw[if_pos h1] at h;have e:(i+n).toNat=j:=Option.some.inj h;exact⟨by rw[seqIndex_neg (by lia) h1,e],by lia,h1,by lia⟩
  .rw[if_neg h1] at h;cases h
theorem fY {α:Type}{xs:List α}{i:Int}{v:α}(h:atI xs i=some v):∃j,seqIndex? i xs.length=some j/\xs[j]?=some v/\j < xs.length/\-(xs.length:Int)<=i/\i < xs.length:=by
 unfold atI at h;cases e:ixN xs.length i with
 |none=>rw[e] at h;cases h
 |some j=>rw[e] at h;obtain⟨h1,h2,h3,h4⟩:=jj e;exact⟨j,h1,h,h2,h3,h4⟩
theorem a0 {α:Type}{xs:List α}{j:Nat}{v:α}(h:xs[j]?=some v):atI xs (j:Int)=some v:=by
 have hj:j < xs.length:=(List.getElem?_eq_some_iff.mp h).1;have e:ixN xs.length (j:Int)=some j:=by unfold ixN;rw[if_pos (by lia),if_pos (by lia)];simp
 unfold atI;rw[e];exact h
def PlainIx (b:Expr):Prop:=∀o i,subscripted b false o i=operate [o,i] (getItem o i)
def IxR (X:Cx)(r:R2):Prop:=
 ∀(value slice:Expr) (pins:List (Addr×Obj)) (s:Shared) (Z:St) (H:Hp) (x y:V) (v u:Value) (Q:VK),Inv X pins Z H s->RelV x v->RelV y u->r x y H Q ->
  subscripted slice false v u=operate [v,u] (getItem v u)->wpAny (model X.prog X.w) X.A (subscriptTail value slice v u) (EP X pins Z Q) X.xe s
def MtR (X:Cx)(id:String)(r:V->List V->Hp->VK->Prop):Prop:=
 ∀(pins:List (Addr×Obj)) (s:Shared) (Z:St) (H:Hp) (x:V) (xs:List V) (v:Value) (us:List Value) (Q:VK),Inv X pins Z H s->RelV x v->Vals xs us->r x xs H Q ->
  wpAny (model X.prog X.w) X.A (call (.builtin id) (v::us)) (EP X pins Z Q) X.xe s
section
variable {X:Cx}{a b:Expr}{ta tb:TE}{pos:Pos}
theorem IxR.or {r r':R2}(h:IxR X r)(h':IxR X r'):IxR X (λx y H Q=>r x y H Q\/r' x y H Q):=by
 intro value slice pins s Z H x y v u Q I rx ry q hs;rcases q with q|q
 .exact h value slice pins s Z H x y v u Q I rx ry q hs
 .exact h' value slice pins s Z H x y v u Q I rx ry q hs
theorem jk {r:R2}(hr:IxR X r)(ha:PE X a ta)(hb:PE X b tb)(hs:PlainIx b):PE X (.Subscript a b pos) (tOp r ta tb):=by intro pins s Z H Q I h;exact Subscript_ (binT ha hb I h λv u s2 x y H2 I2 rx ry q=>hr a b pins s2 Z H2 x y v u Q I2 rx ry q (hs _ _))
def rIxL (K:W.Frag):R2:=λx y H Q=>∃p xs i v,x=.ref p/\y=.int i/\SqL K H p xs/\atI xs i=some v/\Q v H
def rIxT (K:W.Frag):R2:=λx y H Q=>∃p xs i v,x=.ref p/\y=.int i/\SqT K H p xs/\atI xs i=some v/\Q v H
def rIxS:R2:=λx y H Q=>∃z i c,x=.str z/\y=.int i/\z.length<=sizeLine/\atI z.cps.toList i=some c/\Q (.str ⟨#[c]⟩) H
theorem uL:IxR X (rIxL X.K):=by
 intro ld mt dl s Z H x y v u Q I rx ry h hs;obtain⟨p,xs,i,z,rfl,rfl,hq,he,q⟩:=h;cases rx;obtain⟨t,rfl⟩:=ry;obtain⟨EW,r,pl,hz⟩:=I.list hq;obtain⟨j,h1,h2,h3,h4,h5⟩:=fY he;obtain⟨w,ew,Cl⟩:=r.get h2;have hl:=r.length;have hn:=line63;have BT:EP X dl Z Q w s:=⟨z,H,I,Cl,q⟩;by_cases h0:0<=i
 .have hj:i.toNat=j:=by
   rw[seqIndex_of h0 h5] at h1;exact Option.some.inj h1
  exact item_listR pl.isList h0 (by lia) (by rw[hj];simpa using ew) BT hs
 .have hj:(i+(EW.toArray.size:Int)).toNat=j:=by
   rw[seqIndex_neg (by lia) h4] at h1;rw[size_toArray,<- hl];exact Option.some.inj h1
  exact subscriptTail_builtinR (x:=w) pl.isList.typeIs slot_list_getitem.lookup
   (wpAny_getItem_list_neg (Q:=λr s'=>r=w/\EP X dl Z Q r s') pl.isList (by lia) (by rw[size_toArray] <;> lia) (by lia) (by rw[hj];simpa using ew) ⟨rfl,BT⟩) hs
theorem uM:IxR X (rIxT X.K):=by
 intro ld mt dl s Z H x y v u Q I rx ry h hs;obtain⟨p,xs,i,z,rfl,rfl,hq,he,q⟩:=h;cases rx;obtain⟨t,rfl⟩:=ry;obtain⟨EW,r,pl,hz⟩:=I.tuple hq;obtain⟨j,h1,h2,h3,h4,h5⟩:=fY he;obtain⟨w,ew,BT⟩:=r.get h2;have hl:=r.length;have hn:=line63;have Cl:EP X dl Z Q w s:=⟨z,H,I,BT,q⟩;exact subscriptTail_builtinR (x:=w) pl.typeIs slot_tuple_getitem.lookup
  (getItem_tuple (j:=j) (Q:=λr s'=>r=w/\EP X dl Z Q r s') pl (by lia) (by lia) (by rw[size_toArray,<- hl];exact h1) (by simpa using ew) ⟨rfl,Cl⟩) hs
theorem uN:IxR X rIxS:=by
 intro dl ld mt s Z H x y v u Q I rx ry h hs;obtain⟨z,i,c,rfl,rfl,hz,he,q⟩:=h;obtain⟨t,rfl⟩:=rx;obtain⟨t',rfl⟩:=ry;obtain⟨j,h1,h2,h3,h4,h5⟩:=fY he;have hl:z.cps.toList.length=z.length:=by simp[Str.length]
 rw[hl] at h1 h4 h5;have hn:=line63;exact tail_any (typeIs_str s z t) slot_str_getitem.lookup (getItem_str (c:=c) (by have e1:decide (i < -(2 ^ 63:Int))=false:=decide_eq_false (by lia);have e2:decide (i ≥ 2 ^ 63)=false:=decide_eq_false (by lia);rw[e1,e2,Bool.or_false]) (by rw[h1];simpa using h2) ⟨.str ⟨#[c]⟩,H,I.tok _,⟨_,rfl⟩,q⟩) hs
def rIx (K:W.Frag):R2:=λx y H Q=>rIxL K x y H Q\/rIxT K x y H Q\/rIxS x y H Q
theorem uO:IxR X (rIx X.K):=uL.or (uM.or uN)
theorem uP (its:List Value)(n j:Nat)(u:Value):Obj.mapSeq (·.setIfInBounds j u) {cls:=.type "list",data:=.seq its.toArray n}={ cls:=.type "list",data:=.seq (its.set j u).toArray n}:=by simp[Obj.mapSeq]
theorem Inv.lst {pins:List (Addr×Obj)}{Z:St}{H:Hp}{s:Shared}{p:Addr}{xs:List V}(I:Inv X pins Z H s)(h:H p=some (.lst xs)) :
  ∃(its:List Value) (n:Nat),Vals xs its/\s.heap.get? p=some {cls:=.type "list",data:=.seq its.toArray n}/\xs.length<=sizeLine:=by
 obtain⟨z,its,n,r,e⟩:=I.hok p _ h;exact⟨its,n,r,e,z⟩
theorem Inv.lstUpd {pins:List (Addr×Obj)}{Z:St}{H:Hp}{s:Shared}{p:Addr}{xs ys:List V}{its its':List Value}{n n':Nat}{f:Obj->Obj}(I:Inv X pins Z H s)(h:H p=some (.lst xs))
  (ho:s.heap.get? p=some {cls:=.type "list",data:=.seq its.toArray n}) (hf:f {cls:=.type "list",data:=.seq its.toArray n}={ cls:=.type "list",data:=.seq its'.toArray n' }) (r:Vals ys its') (hz:ys.length<=sizeLine) (t:Nat) :
  Inv X pins Z (upd H p (.lst ys)) {s with heap:=s.heap.update p f,toks:=t}:=by
 have e:(s.heap.update p f).get? p=some {cls:=.type "list",data:=.seq its'.toArray n' }:=by rw[Heap.get?_update_self f ho (by rw[hf] <;> rfl),hf]
 refine I.write (x:=p) (e:=p) (by rw[h];trivial) (.inl rfl) (λb u hb q=>(Heap.get?_update_other _ _ (Ne.symm hb)).trans q) ⟨_,e⟩ ?_;exact⟨hz,its',n',r,e⟩
def rSetL:V->V->V->Hp->(Hp->Prop)->Prop:=λo i v H Q=>∃p xs k j,o=.ref p/\i=.int k/\H p=some (.lst xs)/\ixN xs.length k=some j/\Q (upd H p (.lst (xs.set j v)))
theorem uQ:PSet X rSetL:=by
 intro dl s Z H o i v ov iv u Q I ro ri rv h;obtain⟨p,xs,k,j,rfl,rfl,hp,hj,q⟩:=h;cases ro;obtain⟨t,rfl⟩:=ri;obtain⟨ld,n,r,ho,hz⟩:=I.lst hp;obtain⟨h1,h2,h3,h4⟩:=jj hj;have hl:=r.length;have hn:=line63;have I':Inv X dl Z (upd H p (.lst (xs.set j v))) {s with heap:=s.heap.update p (Obj.mapSeq (·.setIfInBounds j u))}:=
  I.lstUpd hp ho (uP ld n j u) (r.set rv j) (by rw[List.length_set];exact hz) s.toks
 by_cases h0:0<=k
 .have hk:k.toNat=j:=by
   rw[seqIndex_of h0 h4] at h1;exact Option.some.inj h1
  exact PySem.W.ki_setAt ho h0 (by lia) (by rw[size_toArray,<- hl];exact h4) (by rw[hk];exact⟨_,I',q⟩)
 .have hk:(k+(ld.toArray.size:Int)).toNat=j:=by
   rw[seqIndex_neg (by lia) h3] at h1;rw[size_toArray,<- hl];exact Option.some.inj h1
  exact PySem.W.ki_setBack ho (by lia) (by rw[size_toArray,<- hl];exact h3) (by lia) (by rw[hk];exact⟨_,I',q⟩)
theorem uR (lo hi:Option Int)(n:Nat):(sliceBounds lo hi none n).1=((HT.sIx n 0 lo:Nat):Int)/\(sliceBounds lo hi none n).2.1=((HT.sIx n n hi:Nat):Int)/\(sliceBounds lo hi none n).2.2=1:=by
 refine⟨?_,?_,rfl⟩
 .cases lo with
  |none=>simp[sliceBounds,HT.sIx]
  |some i=>
   simp only[sliceBounds,HT.sIx,Option.getD_none,show (1:Int) > 0 by decide,if_true];by_cases h:i < 0
   .simp only[h,if_true] <;> lia
   .simp only[h,if_false] <;> lia
 .cases hi with
  |none=>simp[sliceBounds,HT.sIx]
  |some i=>
   simp only[sliceBounds,HT.sIx,Option.getD_none,show (1:Int) > 0 by decide,if_true];by_cases h:i < 0
   .simp only[h,if_true] <;> lia
   .simp only[h,if_false] <;> lia
theorem uS (its:List Value)(lo hi:Option Int):slicePick its.toArray lo hi none=((its.drop (HT.sIx its.length 0 lo)).take (HT.sIx its.length its.length hi - HT.sIx its.length 0 lo)).toArray:=by obtain⟨h1,h2,h3⟩:=uR lo hi its.toArray.size;unfold slicePick;rw[h1,h2,h3];simp only[sliceRange_one,pick_run,size_toArray] <;> rfl
def rSlL (K:W.Frag):V->Option Int->Option Int->Hp->VK->Prop:=λx lo hi H Q=>∃a xs,x=.ref a/\SqL K H a xs/\∀p,H p=none->Q (.ref p) (upd H p (.lst (cutV xs lo hi)))
theorem jl:SlR X (rSlL X.K):=by
 intro dl s Z H x v vl vu lo hi sl Q I rx hs pl pu h;obtain⟨a,xs,rfl,hx,q⟩:=h;cases rx;obtain⟨mt,r,ht,hz⟩:=I.list hx;have ld:=r.length;refine⟨"list",_,slot_list_getitem.lookup,ht.isList.typeIs,?_⟩;refine wpAny_getItem_list_slice ht.isList hs pl pu .none (by simp) ?_ (by rw[size_toArray] <;> lia)
 rw[uS,<- ld];refine⟨.ref s.heap.objs.size,_,I.laid (t':=s.toks) (o:=.lst (cutV xs lo hi)) (λb ob q=>Heap.get?_push_of_some _ q) (Nat.le_refl _) ?_,rfl,q _ (I.hok.fresh (Nat.le_refl _))⟩;exact⟨Nat.le_trans (ji xs lo hi) hz,_,0,(r.drop (HT.sIx xs.length 0 lo)).take (HT.sIx xs.length xs.length hi - HT.sIx xs.length 0 lo),Heap.get?_push_size _ rfl⟩
noncomputable def flatV:V->Bool
 |.non=>true
 |.bl _=>true
 |.int _=>true
 |.str _=>true
 |_=>false
noncomputable def eqV:V->V->Bool
 |.non,.non=>true
 |.bl a,.bl b=>a == b
 |.bl a,.int b=>(if a then 1 else 0) == b
 |.int a,.bl b=>a == (if b then 1 else 0)
 |.int a,.int b=>a == b
 |.str a,.str b=>a == b
 |_,_=>false
theorem uT {A:Around}{s:Shared}{y x:V}{u v:Value}(ry:RelV y u)(rx:RelV x v)(fy:flatV y=true)(fx:flatV x=true):SeqAt.EqAt A s u v (eqV y x):=by
 cases y with
 |non=>
  cases ry;cases x with
  |non=>cases rx;exact SeqAt.EqAt.same _
  |bl b=>cases rx;exact SeqAt.EqAt.none_bool b
  |int b=>obtain⟨t,rfl⟩:=rx;exact SeqAt.EqAt.none_int b t
  |str b=>obtain⟨t,rfl⟩:=rx;exact SeqAt.EqAt.none_str b t
  |_=>exact absurd (show false=true from fx) Bool.false_ne_true
 |bl a=>
  cases ry;cases x with
  |non=>cases rx;exact SeqAt.EqAt.bool_none a
  |bl b=>cases rx;exact SeqAt.EqAt.bool_bool a b
  |int b=>obtain⟨t,rfl⟩:=rx;exact SeqAt.EqAt.bool_int a b t
  |str b=>obtain⟨t,rfl⟩:=rx;exact SeqAt.EqAt.bool_str a b t
  |_=>exact absurd (show false=true from fx) Bool.false_ne_true
 |int a=>
  obtain⟨t',rfl⟩:=ry;cases x with
  |non=>cases rx;exact SeqAt.EqAt.int_none a t'
  |bl b=>cases rx;exact SeqAt.EqAt.int_bool a t' b
  |int b=>obtain⟨t,rfl⟩:=rx;exact SeqAt.EqAt.int_int a t' b t
  |str b=>obtain⟨t,rfl⟩:=rx;exact SeqAt.EqAt.int_str a t' b t
  |_=>exact absurd (show false=true from fx) Bool.false_ne_true
 |str a=>
  obtain⟨t',rfl⟩:=ry;cases x with
  |non=>cases rx;exact SeqAt.EqAt.str_none a t'
  |bl b=>cases rx;exact SeqAt.EqAt.str_bool a t' b
  |int b=>obtain⟨t,rfl⟩:=rx;exact SeqAt.EqAt.str_int a t' b t
  |str b=>obtain⟨t,rfl⟩:=rx;exact SeqAt.EqAt.str_str a t' b t
  |_=>exact absurd (show false=true from fx) Bool.false_ne_true
 |_=>exact absurd (show false=true from fy) Bool.false_ne_true
noncomputable def eqU (x:V)(u:Value):Bool:=match u with
 |.none=>eqV .non x
 |.bool b=>eqV (.bl b) x
 |.int i _=>eqV (.int i) x
 |.str z _=>eqV (.str z) x
 |_=>false
theorem jm {x y:V}{u:Value}(r:RelV y u)(f:flatV y=true):eqU x u=eqV y x:=by
 cases y with
 |non=>cases r;rfl
 |bl b=>cases r;rfl
 |int i=>obtain⟨t,rfl⟩:=r;rfl
 |str z=>obtain⟨t,rfl⟩:=r;rfl
 |_=>exact absurd (show false=true from f) Bool.false_ne_true
theorem cG {x:V}:∀{xs:List V}{us:List Value},Vals xs us->xs.all flatV=true->us.any (eqU x)=xs.any λy=>eqV y x
 |_,_,.nil,_=>rfl
 |y::xs,u::us,.cons r t,f=>by rw[all_cons,Bool.and_eq_true] at f;rw[any_cons,any_cons,jm r f.1,cG t f.2]
theorem cH {A:Around}{s:Shared}{x:V}{v:Value}(rx:RelV x v)(fx:flatV x=true):∀{xs:List V}{us:List Value},Vals xs us->xs.all flatV=true->∀u∈us,SeqAt.EqAt A s u v (eqU x u)
 |_,_,.nil,_=>λu hu=>by cases hu
 |y::xs,u::us,.cons r t,f=>λu' hu=>by
  rw[all_cons,Bool.and_eq_true] at f;rcases mem_cons.mp hu with rfl|hu
  .rw[jm r f.1];exact uT r rx f.1 fx
  .exact cH rx fx t f.2 u' hu
noncomputable def inV (x:V)(xs:List V):Bool:=xs.any λy=>eqV y x
def rIn (K:W.Frag)(neg:Bool):R2:=λx y H Q=>∃p xs,y=.ref p/\(SqL K H p xs\/SqT K H p xs)/\flatV x=true/\xs.all flatV=true/\Q (.bl (if neg then !inV x xs else inV x xs)) H
theorem uU:OpR X (compareOp .In) (rIn X.K false):=by
 intro ld s Z H x y v u Q I rx ry h;obtain⟨p,xs,rfl,hq,fx,fs,q⟩:=h;cases ry;rcases hq with hq|hq
 .obtain⟨dl,r,pl,hz⟩:=I.list hq;refine SeqAt.in_listAt (eqU x) pl.isList (λw hw=>cH rx fx r fs w (by simpa using hw)) ⟨.bl _,H,I,rfl,?_⟩;rw[show dl.toArray.any (eqU x)=dl.any (eqU x) by simp,cG r fs];exact q
 .obtain⟨dl,r,pl,hz⟩:=I.tuple hq;refine SeqAt.in_tupleAt (eqU x) pl (λw hw=>cH rx fx r fs w (by simpa using hw)) ⟨.bl _,H,I,rfl,?_⟩;rw[show dl.toArray.any (eqU x)=dl.any (eqU x) by simp,cG r fs];exact q
theorem uV:OpR X (compareOp .NotIn) (rIn X.K true):=by
 intro ld s Z H x y v u Q I rx ry h;obtain⟨p,xs,rfl,hq,fx,fs,q⟩:=h;cases ry;rcases hq with hq|hq
 .obtain⟨dl,r,pl,hz⟩:=I.list hq;refine SeqAt.notIn_listAt (eqU x) pl.isList (λw hw=>cH rx fx r fs w (by simpa using hw)) ⟨.bl _,H,I,rfl,?_⟩;rw[show dl.toArray.any (eqU x)=dl.any (eqU x) by simp,cG r fs];exact q
 .obtain⟨dl,r,pl,hz⟩:=I.tuple hq;refine SeqAt.notIn_tupleAt (eqU x) pl (λw hw=>cH rx fx r fs w (by simpa using hw)) ⟨.bl _,H,I,rfl,?_⟩;rw[show dl.toArray.any (eqU x)=dl.any (eqU x) by simp,cG r fs];exact q
theorem uW:CallR X (.builtin "len") (λxs H Q=>∃p ys,xs=[.ref p]/\(SqL X.K H p ys\/SqT X.K H p ys)/\Q (.int ys.length) H):=by
 intro ld s Z H xs us Q I r h;obtain⟨p,ys,rfl,hq,q⟩:=h;obtain⟨u,rfl,rx⟩:=vals1 r;cases rx;have hn:=line63;rcases hq with hq|hq
 .obtain⟨mt,r',pl,hz⟩:=I.list hq;have dl:=r'.length;exact Calls.call_len_list pl.isList (by simp only[size_toArray] <;> lia) ⟨.int ys.length,H,I.tok _,⟨s.toks+1,by rw[size_toArray,dl]⟩,q⟩
 .obtain⟨mt,r',pl,hz⟩:=I.tuple hq;have dl:=r'.length;exact len_tuple pl (by simp only[size_toArray] <;> lia) ⟨.int ys.length,H,I.tok _,⟨s.toks+1,by rw[size_toArray,dl]⟩,q⟩
theorem uX:CallR X (.builtin "len") (λxs H Q=>∃z,xs=[.str z]/\z.length<=sizeLine/\Q (.int z.length) H):=by intro pins s Z H xs us Q I r h;obtain⟨z,rfl,hz,q⟩:=h;obtain⟨u,rfl,t,rfl⟩:=vals1 r;have hn:=line63;exact len_str (by lia) ⟨.int z.length,H,I.tok _,⟨_,rfl⟩,q⟩
theorem uY:CallR X (.type "list") (λxs H Q=>∃p ys,xs=[.ref p]/\(SqL X.K H p ys\/SqT X.K H p ys)/\∀l,H l=none->Q (.ref l) (upd H l (.lst ys))):=by
 intro ld s Z H xs us Q I r h;obtain⟨p,ys,rfl,hq,q⟩:=h;obtain⟨u,rfl,rx⟩:=vals1 r;cases rx;have mt:∀(dl:List Value),Vals ys dl->ys.length<=sizeLine->∀(h':Heap) (c':Nat),(∀b o',s.heap.get? b=some o'->h'.get? b=some o') ->
   h'.get? s.heap.objs.size=some {cls:=.type "list",dict:=none,data:=.seq dl.toArray c',slots:=#[]}->EP X ld Z Q (.ref s.heap.objs.size) {s with heap:=h' }:=λdl r' hz h' c' kp e=>
  ⟨.ref s.heap.objs.size,_,I.laid (t':=s.toks) kp (Nat.le_refl _) (show ObjOk X.prog X.w _ h' _ (.lst ys) from ⟨hz,dl,c',r',e⟩),rfl,q _ (I.hok.fresh (Nat.le_refl _))⟩
 rcases hq with hq|hq
 .obtain⟨dl,r',pl,hz⟩:=I.list hq;have hlen:=r'.length;obtain⟨o,ho,hc,n,hd⟩:=pl.isList;exact call_list_seq p (.inl rfl) ho hc hd (λh' c' kp e=>mt dl r' hz h' c' kp e) (by simp only[size_toArray] <;> lia)
 .obtain⟨dl,r',pl,hz⟩:=I.tuple hq;have hlen:=r'.length;obtain⟨o,ho,hc,n,hd⟩:=pl;exact call_list_seq p (.inr rfl) ho hc hd (λh' c' kp e=>mt dl r' hz h' c' kp e) (by simp only[size_toArray] <;> lia)
theorem jn:CallR X (.type "tuple") (λxs H Q=>∃p ys,xs=[.ref p]/\((SqL X.K H p ys/\∀l,H l=none->Q (.ref l) (upd H l (.tup ys)))\/(SqT X.K H p ys/\Q (.ref p) H))):=by
 intro dl s Z H xs us Q I r h;obtain⟨p,ys,rfl,h⟩:=h;obtain⟨u,rfl,rx⟩:=vals1 r;cases rx;rcases h with⟨hq,q⟩|⟨hq,q⟩
 .obtain⟨ld,r',pl,hz⟩:=I.list hq;have hlen:=r'.length;refine call_tuple_list pl.isList (λh' kp=>?_) (by simp only[size_toArray] <;> lia)
  have I1:Inv X dl Z H {s with heap:=h' }:=I.kept (t':=s.toks) kp;have I2:Inv X dl Z (upd H h'.objs.size (.tup ys)) {s with heap:=h'.push {cls:=.type "tuple",data:=.seq ld.toArray} }:=
   I1.laid (t':=s.toks) (λb o e=>Heap.get?_push_of_some _ e) (Nat.le_refl _) (show ObjOk X.prog X.w _ _ _ (.tup ys) from ⟨hz,ld,r',IsTup.new _ _⟩)
  exact⟨.ref h'.objs.size,_,I2,rfl,q _ (I1.hok.fresh (Nat.le_refl _))⟩
 .obtain⟨ld,r',pl,hz⟩:=I.tuple hq;exact call_tuple_same pl ⟨.ref p,H,I,rfl,q⟩
def tyV (K:W.Frag)(T:String)(x:V)(H:Hp):Prop:=match x with
 |.str _=>T = "str"
 |.int _=>T = "int"
 |.ref p=>(T = "list"/\∃xs,SqL K H p xs)\/(T = "tuple"/\∃o,K.lookup p=some o/\o.cls=.type "tuple"/\o.dict=none)\/
   (T = "dict"/\((∃kvs,H p=some (.dK kvs))\/∃kvs,H p=some (.dT kvs)))\/(T = "set"/\∃S n,H p=some (.set S n))
 |_=>False
theorem uZ {pins:List (Addr×Obj)}{Z:St}{H:Hp}{s:Shared}{T:String}{x:V}{v:Value}(I:Inv X pins Z H s)(r:RelV x v)(ty:tyV X.K T x H) :
  s.TypeIs v T/\∀a,v=.ref a->∃ob,s.heap.get? a=some ob/\ob.dict=none:=by
 cases x with
 |str z=>obtain⟨t,rfl⟩:=r;cases (show T = "str" from ty);exact⟨typeIs_str s z t,λ_ e=>nomatch e⟩
 |int i=>obtain⟨t,rfl⟩:=r;cases (show T = "int" from ty);exact⟨typeIs_int s i t,λ_ e=>nomatch e⟩
 |ref p=>
  cases r;rcases ty with⟨rfl,xs,hq⟩|⟨rfl,o,hk,hc,hd⟩|⟨rfl,hk⟩|⟨rfl,S,n,hk⟩
  .obtain⟨ld,_,pl,_⟩:=I.list hq;refine⟨pl.isList.typeIs,λa e=>?_⟩;cases e;obtain⟨o,n,e,c,hd,_⟩:=pl;exact⟨o,e,hd⟩
  .refine⟨⟨o,I.kIn p o hk,hc⟩,λa e=>?_⟩;cases e;exact⟨o,I.kIn _ o hk,hd⟩
  .have z:∃o,s.heap.get? p=some o/\o.ExactDict:=by
    rcases hk with⟨dl,hk⟩|⟨dl,hk⟩
    .obtain⟨_,_,_,_,o,_,_,e,ex,_⟩:=I.hok p _ hk;exact⟨o,e,ex⟩
    .obtain⟨_,_,_,_,o,_,_,e,ex,_⟩:=I.hok p _ hk;exact⟨o,e,ex⟩
   obtain⟨o,e,ex⟩:=z;refine⟨⟨o,e,ex.1⟩,λa e2=>?_⟩;cases e2;exact⟨o,e,ex.2.1⟩
  .obtain⟨o,_,_,_,e,ex,_⟩:=I.hok p _ hk;refine⟨⟨o,e,ex.1⟩,λa e2=>?_⟩;cases e2;exact⟨o,e,ex.2.1⟩
 |_=>exact False.elim ty
def tBM (K:W.Frag)(T:String)(r:V->List V->Hp->VK->Prop)(to:TE)(t:TA):TE:=λZ H Q=>to Z H λx H1=>tyV K T x H1/\t Z H1 λxs H2=>r x xs H2 Q
variable {o e:Expr}{es:List Expr}{to:TE}{t:TA}{name:Str}{apos cpos:Pos}{T id:String}{r:V->List V->Hp->VK->Prop}
theorem ua (pa:PlainAttrs T)(slot:Slot T name id)(hty:typeOf (.builtin id)=pure (.type "method_descriptor"))(hm:MtR X id r)(ho:PE X o to)(ha:PA X (e::es) t)
  (hbase:attributeBase o name X.env (eval o X.env)=eval o X.env:=by rfl)
  (hfew:((backTo cpos (starEach (e::es) X.env)).all (λx=>!x.1) && (backToKw cpos (keywordEach [] X.env)).all (λx=>x.1.isSome)
   && decide ((e::es).length+([]:List Keyword).length+(if ([]:List Keyword).isEmpty then 0 else 1) < 30))=true:=by rfl)
  (hline:(apos.endLine == cpos.line)=true:=by rfl) (hs:starEach (e::es) X.env=(false,eval e X.env)::starEach es X.env:=by rfl) (hplain:(backTo cpos (starEach es X.env)).any (·.1)=false:=by rfl) :
  PE X (.Call (.Attribute o name apos) (e::es) [] cpos) (tBM X.K T r to t):=by
 intro dl s Z H Q I h;refine wpAny_Call_method_late hbase hfew hline rfl (thn (ho dl s Z H _ I h) λv s1 W'=>?_);obtain⟨x,H1,I1,r1,ty,q1⟩:=W';obtain⟨h1,h2⟩:=uZ I1 r1 ty;refine⟨T,id,pa,slot,hty,h1,h2,?_⟩;have hA:=ha cpos dl s1 Z H1 _ I1 q1;rw[hs] at hA ⊢;refine Calls.callWith_builtin (by show (false || (backTo cpos (starEach es X.env)).any (·.1))=false;rw[hplain] <;> rfl) (Calls.evalArgs_plain ?_)
 exact thn hA λus s2 ⟨vs,H2,I2,r2,q2⟩=>hm dl s2 Z H2 x vs v us Q I2 r1 r2 q2
end
def MtM (X:Cx)(id:String)(r:V->List V->Hp->VK->Prop):Prop:=
 ∀(pins:List (Addr×Obj)) (s:Shared) (Z:St) (H:Hp) (x:V) (xs:List V) (v:Value) (us:List Value) (Q:VK),Inv X pins Z H s->RelV x v->Vals xs us->r x xs H Q ->
  wpAny (model X.prog X.w) X.A (call (.builtin id) (v::us)) (EP X pins Z Q) X.xe s
theorem Vals.one {x:V}{us:List Value}(h:Vals [x] us):∃u,us=[u]/\RelV x u:=by
 cases h with
 |cons r t=>cases t;exact⟨_,rfl,r⟩
theorem Vals.rep {xs:List V}{us:List Value}(h:Vals xs us):∀k:Nat,Vals (List.replicate k xs).flatten (List.replicate k us).flatten
 |0=>.nil
 |k+1=>by rw[replicate_succ,replicate_succ,flatten_cons,flatten_cons];exact Vals.append h (Vals.rep h k)
theorem fZ (its:List Value):∀(k:Nat) (acc:List Value),
  List.foldl (λx1 x2=>x1++x2) acc.toArray (List.replicate k its.toArray)=(acc++(List.replicate k its).flatten).toArray
 |0,acc=>by simp
 |k+1,acc=>by
  have e:acc.toArray++its.toArray=(acc++its).toArray:=by simp
  have e2:(acc++its)++(List.replicate k its).flatten=acc++(List.replicate (k+1) its).flatten:=by rw[replicate_succ,flatten_cons,append_assoc]
  rw[<- e2,<- fZ its k (acc++its),<- e,replicate_succ,List.foldl_cons]
section
variable {X:Cx}{pins:List (Addr×Obj)}{Z:St}{H:Hp}{s:Shared}{l b:Addr}{xs ys zs:List V}
theorem Inv.lset {its its':List Value}{n:Nat}{f:Array Value->Array Value}{t':Nat}(I:Inv X pins Z H s)(hH:H l=some (.lst xs))
  (e:s.heap.get? l=some {cls:=.type "list",data:=.seq its.toArray n}) (hf:f its.toArray=its'.toArray) (hv:Vals ys its') (hz:ys.length<=sizeLine) :
  Inv X pins Z (upd H l (.lst ys)) {s with heap:=s.heap.update l (Obj.mapSeq f),toks:=t' }:=by
 have q:=PySem.IsL.update e f;rw[hf] at q;refine I.write (x:=l) (e:=l) (by rw[hH];exact trivial) (.inl rfl) (λb' u hb hu=>(Heap.get?_update_other s.heap (Obj.mapSeq f) (Ne.symm hb)).trans hu) ⟨_,q⟩ ?_;exact⟨hz,its',_,hv,q⟩
theorem Inv.lnew {its:List Value}{t':Nat}(I:Inv X pins Z H s)(hv:Vals ys its)(hz:ys.length<=sizeLine) :
  Inv X pins Z (upd H s.heap.objs.size (.lst ys)) {s with heap:=s.heap.push {cls:=.type "list",data:=.seq its.toArray},toks:=t' }:=
 I.laid (λ_ _ q=>Heap.get?_push_of_some _ q) (Nat.le_refl _) ⟨hz,its,0,hv,Heap.get?_push_size _ rfl⟩
theorem Inv.fresh (I:Inv X pins Z H s):H s.heap.objs.size=none:=I.hok.fresh (Nat.le_refl _)
theorem Inv.lstM (I:Inv X pins Z H s)(hH:H l=some (.lst xs)):xs.length<=sizeLine/\∃(its:List Value) (n:Nat),Vals xs its/\xs.length=its.length/\s.heap.get? l=some {cls:=.type "list",data:=.seq its.toArray n}:=by obtain⟨z,its,n,r,e⟩:=I.hok l _ hH;exact⟨z,its,n,r,r.length,e⟩
theorem notLongL {n:Nat}(h:n<=sizeLine):Builtin.List.listTooLong n=false:=by unfold Builtin.List.listTooLong;exact decide_eq_false (by lia)
end
section
variable {X:Cx}
def rAppend:V->List V->Hp->VK->Prop:=λx vs H Q=>∃l xs y,x=.ref l/\vs=[y]/\H l=some (.lst xs)/\xs.length < sizeLine/\Q .non (upd H l (.lst (xs++[y])))
theorem cI:MtM X "list.append" rAppend:=by intro ld s Z H x vs v us Q I rx rv h;obtain⟨l,xs,y,rfl,rfl,hH,hz,q⟩:=h;cases rx;obtain⟨u,rfl,ru⟩:=rv.one;obtain⟨z,dl,n,r,hl,e⟩:=I.lstM hH;refine call_meets F.slot_list_append ⟨_,e,rfl⟩ F.entry_list_append (F.args_list_append_2 _ _) (PySem.list_append l dl.toArray n u (by rw[size_toArray];lia)) ⟨e,?_⟩;refine⟨.non,_,I.lset (its':=dl++[u]) hH e (by simp) (r.append (.cons ru .nil)) ?_,rfl,q⟩;rw[length_append,length_singleton];lia
def rExtend:V->List V->Hp->VK->Prop:=λx vs H Q=>∃l b xs zs,x=.ref l/\vs=[.ref b]/\H l=some (.lst xs)/\H b=some (.lst zs)/\xs.length+zs.length<=sizeLine/\Q .non (upd H l (.lst (xs++zs)))
theorem ub:MtM X "list.extend" rExtend:=by
 intro BT s Z H x vs v us Q I rx rv h;obtain⟨l,b,xs,zs,rfl,rfl,hH,hB,hz,q⟩:=h;cases rx;obtain⟨u,rfl,ru⟩:=rv.one;cases ru;obtain⟨z,ld,n,r,hl,e⟩:=I.lstM hH;obtain⟨z2,dl,n2,r2,EW,e2⟩:=I.lstM hB;have Cl:ld.toArray.size+dl.toArray.size<=sizeLine:=by rw[size_toArray,size_toArray];lia
 have mt:¬ (!ld.toArray.isEmpty && Builtin.List.listTooLong (ld.toArray.size+dl.toArray.size))=true:=by rw[notLongL Cl,Bool.and_false];exact Bool.false_ne_true
 refine call_meets F.slot_list_extend ⟨_,e,rfl⟩ F.entry_list_extend (F.args_list_extend_2 _ _)
  (AutoSeq1.list_extend_list_list_0 l ld.toArray n b dl.toArray n2 mt (by rw[size_toArray];lia) (by lia)) ⟨e,e2,?_⟩
 refine⟨.non,_,I.lset (its':=ld++dl) hH e (by simp) (r.append r2) ?_,rfl,q⟩;rw[length_append];lia
def rCat:R2:=λx y H Q=>∃l b xs zs,x=.ref l/\y=.ref b/\H l=some (.lst xs)/\H b=some (.lst zs)/\xs.length+zs.length<=sizeLine/\∀p,H p=none->Q (.ref p) (upd H p (.lst (xs++zs)))
theorem uc:OpR X (binaryOp .Add) rCat:=by
 intro mt s Z H x y v u Q I rx ry h;obtain⟨l,b,xs,zs,rfl,rfl,hH,hB,hz,q⟩:=h;cases rx;cases ry;obtain⟨z,ld,n,r,hl,e⟩:=I.lstM hH;obtain⟨z2,dl,n2,r2,BT,e2⟩:=I.lstM hB;refine PySem.P.add_list e e2 ?_ (by rw[size_toArray,size_toArray];lia);have ea:ld.toArray++dl.toArray=(ld++dl).toArray:=by simp
 rw[ea];exact⟨.ref _,_,I.lnew (t':=s.toks) (r.append r2) (by rw[length_append];lia),rfl,q _ I.fresh⟩
theorem jo {α:Type}(xs:List α)(k:Nat):(List.replicate k xs).flatten.length=k * xs.length:=by
 induction k with
 |zero=>simp
 |succ k ih=>rw[replicate_succ,flatten_cons,length_append,ih,Nat.succ_mul,Nat.add_comm]
end
section
variable {prog:Program}{w:World}{A:Around}{E:Value->Shared->Prop}{s:Shared}
set_option maxRecDepth 100000 in
end
section
variable {X:Cx}
end
end L2
namespace Att
open PySem PySem.W PySem.Calls PyProof.Rows
theorem ud {P:Params}{h:Heap}:∀(ns:List Int) (vs:List Value),WellAll P h vs (ns.map WData.int)->IntsAre vs ns:=by
 intro ns;induction ns with
 |nil=>intro vs w;rw[map_nil] at w;cases w;exact .nil
 |cons n ns ih=>
  intro vs w;rw[map_cons] at w;cases w with
  |cons a b=>cases a;exact .cons _ _ (ih _ b)
theorem ue {l:OpenLaw}{n:Nat}(hn:l.most=some n){P:Params}{h:Heap}{args:List WData}{vals:List Value}
  (hpre:l.row.toRowW.claim.pre args=true) (hwl:WellAll P h vals args) :
  ∃a vs ns,vals=[Value.ref a]/\args=[WData.list (ns.map WData.int)]/\h.get? a=some {cls:=.type "list",data:=.seq vs.toArray}/\IntsAre vs ns/\ns.length<=n:=by
 have ld:WShape.hasAll [] args [.list .int]=true:=(pre_splitW hpre).1;have hc:l.pre.holds [] {args:=args}=true:=(pre_splitW hpre).2;obtain⟨d,r,rfl,h1,h2⟩:=hasAllW_cons ld;obtain rfl:=hasAllW_nil h2;obtain⟨xs,rfl,h3⟩:=hasW_list h1;obtain⟨ns,rfl⟩:=items_int h3;have dl:ns.length<=n:=by
  unfold OpenLaw.pre at hc;have h4:(WTm.not (.lt (.lit (.int (n:Int))) (.len (.arg 0)))).holds [] {args:=[.list (ns.map .int)]}=true:=by have h4:=(holds_andW hc).1;rw[hn] at h4;exact h4
  have h5:=condW_of h4 (w_not (w_lt w_lit (w_len_list (w_arg rfl))));rw[length_map] at h5;refine Nat.le_of_not_lt λq=>?_;have q':(n:Int) < ((ns.length:Nat):Int):=by lia
  first
   | (rw[decide_eq_true q'] at h5;exact absurd h5 (by decide))
   | (simp at h5;lia)
 cases hwl with
 |cons w1 w2=>
  cases w2;cases w1 with
  |list ho hall=>exact⟨_,_,ns,rfl,rfl,ho,ud ns _ hall,dl⟩
theorem uf (l:OpenLaw)(args:List WData):l.row.toRowW.claim.post args (.bool true) args=true:=
 postW_of (r:=l.row.toRowW) (X:=(true == true))
  (show WShape.has [] (.bool true) .bool=true by first|rfl|decide|simp[WShape.has,WShape.arms,WShape.armsAll])
  (show (WTm.eq .res (.lit (.bool true))).value [] {args:=args,res:=some (.bool true),after:=args}=some (.bool (true == true)) from w_eq_bool (w_res rfl) w_lit) rfl
theorem attach_call {l:OpenLaw}{n:Nat}{q:Program}{loose:List Str}{XP:(Str->Option Value)->Heap->Prop}{YP:World->Heap->Prop}{d:DefRec}
  (hn:l.most=some n) (hdf:d.params.defaults=[])
  (call:∀(w:World) (s₀ s₁:Shared) (mg mb:Str->Option Value) (fa:Addr) (o:Obj) (pm cd doc:Value) (a:Addr) (vs:List Value) (ns:List Int),
   Ground q loose [] XP w s₀ mg mb s₁.heap->YP w s₁.heap ->
   s₁.heap.get? fa=some o->o.data=.func (docDef d.name d.params d.body d.scope pm cd doc)->s₁.heap.CodeRec cd d.name->mg d.name=some (.ref fa) ->
   s₁.heap.get? a=some {cls:=.type "list",data:=.seq vs.toArray}->IntsAre vs ns->ns.length<=n->s₁.gens=#[] ->
   codeAny (model l.prog w) callerA (.call (.ref fa) ⟨[.ref a],[]⟩) (λr s'=>r=.ok (.ret (.bool true))/\OldK s₁.heap s'.heap/\s'.os=s₁.os/\AllBare s'.gens) s₁) :
  WalkO q loose XP YP l.row.toRowW d [] (λf vs=>PySem.call f vs):=by
 intro w s₀ s₁ mg mb G Y fa o pm cd doc dV kV ho hd EZ hD EX hg Fa Cl as ld EY Fb EW Fc;obtain rfl:dV=.none:=Dflts.none hD hdf;obtain rfl:kV=.none:=Dflts.noKw hD;obtain⟨a,vs,ns,rfl,rfl,mt,dl,BT⟩:=ue hn ld EW;refine enter_call (codeAny_mono (call w s₀ s₁ mg mb fa o pm cd doc a vs ns G Y ho (fd_plain hd) EZ EX mt dl BT hg) λr s' hq=>?_);obtain⟨rfl,h2,h3,h4⟩:=hq;exact⟨.inl ⟨.bool true,.bool true,[],rfl,λ_=>rfl,.bool true,uf l _,λ_=>⟨List.Pairwise.nil,λ_ hm=>(nomatch hm)⟩⟩,h2,h3,h4⟩
section
variable {prog:Program}{w:World}{A:Around}{E:Value->Shared->Prop}{s:Shared}{K:Frag}
noncomputable def ledger (h:Heap)(L d:Addr):List (Addr×Obj):=(List.range h.objs.size).filterMap λa=>if a=L\/a=d then none else (h.get? a).map λo=>(a,o)
end
end Att
namespace L2
open PySem PySem.Spec PyProof.Rows
theorem jp:∀{vs:List Value}{ns:List Int},IntsAre vs ns->Vals (ns.map V.int) vs
 |_,_,.nil=>.nil
 |_,_,.cons n t h=>.cons ⟨t,rfl⟩ (jp h)
def Only (H:Hp):Prop:=∀b,H b=none\/∃o xs,H b=some (.frz o (.lst xs))
theorem ug {P:Program}{w:World}{K:W.Frag}{mg mb:Str->Option Value}{CX:CXT}{k:Nat}{fa a:Addr}{fd:FuncData}{x:Str}{sp:Sp}{s₁:Shared}{vs:List Value}{ns:List Int}
  (KX:K.In s₁.heap) (hns:s₁.heap.Ns mainGlobals mg) (hb:s₁.heap.Ns builtinsNs mb) (hbb:∀x:Str,x ≠ "__name__" -> mb x=bootBuiltins x) (hlim:s₁.heap.NoLimit) (hg:s₁.gens=#[])
  (ha:s₁.heap.get? a=some {cls:=.type "list",data:=.seq vs.toArray}) (hi:IntsAre vs ns) (hl:ns.length<=sizeLine) (hr:Room k callerA)
  (F:∀base:Heap,K.In base->base.Ns mainGlobals mg->FnOk P w K mg base CX k fa fd [x] sp) (hbind:∀(s:Shared) (u:Value),BindsTo s fd ⟨[u],[]⟩ [(x,u)])
  (hsp:∀H:Hp,Only H->SqL K H a (ns.map V.int)->sp [.ref a] H (λv _=>v=.bl true) λ_ _ _=>False)
  (hCX:∀H e s',CX [] H s₁ (λ_ _ _=>False) e s'->False) :
  codeAny (model P w) callerA (.call (.ref fa) ⟨[.ref a],[]⟩) (λr s'=>r=.ok (.ret (.bool true))/\OldK s₁.heap s'.heap/\s'.os=s₁.os/\AllBare s'.gens) s₁:=by
 have rv:=jp hi;have EZ:=hi.length;have ld:∀H:Hp,Only H->SqL K H a (ns.map V.int)->HOk P w H s₁.heap->(∀b,H b≠none->b=a)->(H a≠none->K.lookup a=none) ->
   codeAny (model P w) callerA (.call (.ref fa) ⟨[.ref a],[]⟩) (λr s'=>r=.ok (.ret (.bool true))/\OldK s₁.heap s'.heap/\s'.os=s₁.os/\AllBare s'.gens) s₁:=by
  intro H hO hS EW hA hK;have dl:∀{b:Addr}{o:Obj},s₁.heap.get? b=some o->H b=none->(hidT s₁.heap H).get? b=some o:=λe n=>sW e n;have EY:∀{b:Addr}{o:Obj}{es:Array DictEntry}{ep:Nat},s₁.heap.get? b=some o->o.data=.dict es ep->H b=none:=λ{b o es ep} e d=>by
   cases q:H b with
   |none=>rfl
   |some u=>have e':b=a:=hA b (by rw[q];simp);subst e';rw[ha] at e;cases e;have d':Data.seq vs.toArray _=Data.dict es ep:=d;cases d'
  have mt:∀{b:Addr}{m:Str->Option Value},s₁.heap.Ns b m->(hidT s₁.heap H).Ns b m:=λ{b m} ⟨o,es,ep,e,d,r⟩=>⟨o,es,ep,dl e (EY e d),d,r⟩;have EX:K.In (hidT s₁.heap H):=λb o e=>dl (KX b o e) (by
   cases q:H b with
   |none=>rfl
   |some u=>have e':b=a:=hA b (by rw[q];simp);subst e';rw[hK (by rw[q];simp)] at e;cases e)
  have hM:Mod K mg (hidT s₁.heap H):=⟨EX,mt hns,⟨mb,mt hb,hbb⟩,let ⟨mc,h1,h2⟩:=hlim;⟨mc,mt h1,h2⟩⟩;have e0:Env0 P w K mg (hidT s₁.heap H) callerA [] s₁ H:=⟨rfl,hM,λb o e=>sX e,Nat.le_of_eq (sU _ _),trivial,λb hb=>absurd (show b∈([]:List Addr) from hb) (by simp),EW,.of_eq hg⟩;refine codeAny_mono ((F _ EX (mt hns)).run callerA [] s₁ H ⟨[.ref a],[]⟩ [.ref a] [.ref a] _ _ hr e0 (hbind s₁ (.ref a)) (.cons rfl .nil) (hsp H hO hS)) λr s' h=>?_;cases r with
  |error e=>exact (hCX H e s' h).elim
  |ok fl=>
   cases fl with
   |next=>exact False.elim h
   |brk=>exact False.elim h
   |cont=>exact False.elim h
   |ret u=>
    obtain⟨v,H',os,Cl,un,BT,r',q⟩:=h;have q':v=.bl true:=q;subst q';obtain rfl:u=Value.bool true:=r';refine⟨rfl,OldK.of_keep λb o e=>?_,os,Cl⟩;cases q:H b with
    |none=>exact un.keep b o e q (by intro z;exact absurd (show b∈([]:List Addr) from z) (by simp)) (by simp)
    |some u=>
     rcases hO b with z|⟨ob,xs,z⟩
     .rw[q] at z;cases z
     .have z2:=un.frzs b ob _ z;obtain⟨e1,_⟩:=EW b _ z;obtain⟨e2,_⟩:=BT b _ z2;rw[e] at e1;cases e1;exact e2
 cases hk:K.lookup a with
 |some o=>have e:=KX a o hk;rw[ha] at e;cases e;refine ld (λ_=>none) (λ_=>.inl rfl) (.inr ⟨_,vs.toArray,_,hk,rfl,rfl,rfl,by rw[size_toArray,EZ];exact hl,by simpa using rv⟩) (λb u z=>by have z':(none:Option HO)=some u:=z;cases z') (λb z=>absurd rfl z) λz=>absurd rfl z
 |none=>
  refine ld (λb=>if b=a then some (.frz {cls:=.type "list",data:=.seq vs.toArray} (.lst (ns.map V.int))) else none) (λb=>?_) (.inl (.inr ⟨{cls:=.type "list",data:=.seq vs.toArray},if_pos rfl⟩)) (λb u z=>?_) (λb z=>?_) λ_=>hk
  .by_cases hb:b=a
   .exact .inr ⟨_,_,if_pos hb⟩
   .exact .inl (if_neg hb)
  .by_cases hb:b=a
   .have z':=(if_pos hb).symm.trans z;cases z';subst hb;exact⟨ha,by rw[length_map];exact hl,vs,_,rv,ha⟩
   .have z':=(if_neg hb).symm.trans z;cases z'
  .by_cases hb:b=a
   .exact hb
   .exact absurd (if_neg hb) z
noncomputable abbrev KOf {K:W.Frag}{h:Heap}(_:K.In h):W.Frag:=K
theorem uh {l:PySem.W.OpenLaw}{n k:Nat}{q:Program}{loose:List Str}{XP:(Str->Option Value)->Heap->Prop}{YP:World->Heap->Prop}{d:DefRec}{K:Params->W.Frag}{CX:World->CXT}{sp:World->Sp}{x:Str}
  (hn:l.most=some n) (hn2:n<=sizeLine) (hdf:d.params.defaults=[]) (hr:Room k callerA)
  (hY:∀(w:World) (h:Heap),YP w h->(K w.params).In h)
  (F:∀(w:World) (mg:Str->Option Value) (fa:Addr) (h:Heap),(K w.params).In h->h.Ns mainGlobals mg->mg d.name=some (.ref fa) ->
   ∃fd:FuncData,(∀(s:Shared) (u:Value),BindsTo s fd ⟨[u],[]⟩ [(x,u)])/\
    ∀base:Heap,(K w.params).In base->base.Ns mainGlobals mg->FnOk l.prog w (K w.params) mg base (CX w) k fa fd [x] (sp w))
  (hsp:∀(w:World) (H:Hp) (a:Addr) (ns:List Int),ns.length<=n->Only H->SqL (K w.params) H a (ns.map V.int)->sp w [.ref a] H (λv _=>v=.bl true) λ_ _ _=>False)
  (hCX:∀(w:World) (H:Hp) (s:Shared) (e:Value) (s':Shared),CX w [] H s (λ_ _ _=>False) e s'->False) :
  PySem.W.WalkO q loose XP YP l.row.toRowW d [] (λf vs=>PySem.call f vs):=by
 refine Att.attach_call hn hdf λw s₀ s₁ mg mb fa o pm cd EW a vs ns G Y ho hd Cl BT mt ld dl hg=>?_;have KX:=hY w _ Y;obtain⟨fd,hb,hF⟩:=F w mg fa _ KX G.T.g BT;exact ug KX G.T.g G.T.b G.T.builtins G.T.nolimit hg mt ld (Nat.le_trans dl hn2) hr hF hb (λH hO hS=>hsp w H a ns dl hO hS) λH e s'=>hCX w H s₁ e s'
noncomputable def inClass (s:Stmt)(j:Nat):Stmt:=match s with
 |.ClassDef _ _ _ body _ _ _ _ _ _ _=>body.getD j (.Pass ⟨0,0,0,0⟩)
 |_=>.Pass ⟨0,0,0,0⟩
noncomputable def defArgs (s:Stmt):Arguments:=match s with
 |.FunctionDef _ a _ _ _ _ _ _ _ _=>a
 |_=>{ posonlyargs:=[],args:=[],vararg:=none,kwonlyargs:=[],kw_defaults:=[],kwarg:=none,defaults:=[]}
noncomputable def defBody (s:Stmt):List Stmt:=match s with
 |.FunctionDef _ _ b _ _ _ _ _ _ _=>b
 |_=>[]
noncomputable def defScope (s:Stmt):Scope:=match s with
 |.FunctionDef _ _ _ _ _ _ sc _ _ _=>sc
 |_=>{ kind:=.function,names:=[],isGenerator:=false,isCoroutine:=false}
noncomputable abbrev CX0:CXT:=λ_ _ _ _ _ _=>False
abbrev E0:XK:=λ_ _ _=>False
theorem pass0 {X:Cx}:Passes CX0 X E0:=λ_ _ _ _ _ _ _ h=>h.elim
structure Fun (K:W.Frag)(x qual:Str)(st:Stmt)(f:Addr)(fd:FuncData):Prop where
 ex:∃(oc:Value) (od:Option Addr) (kV doc pm:Value) (an:Option Addr) (cdv ct:Value) (osl:Array (Option Value)),
  fd=PySem.W.fnOf x qual (defArgs st) (defBody st) (defScope st) .none kV doc pm an cdv ct/\K.lookup f=some ⟨oc,od,.func fd,osl⟩/\PySem.W.codeIn K cdv qual=true
 kp:PySem.W.keepIn K (.ref f)=true
section
variable {P:Program}{w:World}{K:W.Frag}{mg:Str->Option Value}{base:Heap}
theorem Fun.ok {x qual:Str}{st:Stmt}{f:Addr}{fd:FuncData}{N ps:List Str}{k:Nat}{sp:Sp}(F:Fun K x qual st f fd)(S:FnScope N ps (defScope st))(len:∀vs H Q E,sp vs H Q E->vs.length=ps.length)
  (hbody:∀(cdv:Value) (A:Around) (outer:List Env) (s:Shared) (H:Hp) (vs:List V) (Q:VK) (E:XK),Room k (A.deeper (envOfC qual (defScope st) s.heap.objs.size f cdv))->sp vs H Q E ->
   ∃t,PSs (cxOf CX0 P w K mg base N qual (defScope st) f cdv A outer s H E).nox (defBody st) t/\t {nx:=λ_ H'=>Q .non H',rt:=Q} (start N vs) H):FnOk P w K mg base CX0 (k+1) f fd ps sp:=by
 obtain⟨oc,od,kV,doc,pm,an,cdv,ct,osl,rfl,lk,hcd⟩:=F.ex;refine jc lk hcd S len λA outer s H vs Q E hr hsp=>?_;obtain⟨t,h,q⟩:=hbody cdv A outer s H vs Q E hr hsp;exact⟨t,h.nox,q⟩
theorem Fun.binds {x qual:Str}{st:Stmt}{f:Addr}{fd:FuncData}{ps:List Str}(F:Fun K x qual st f fd)
  (h:∀(kV doc pm:Value) (an:Option Addr) (cdv ct:Value) (us:List Value),us.length=ps.length->bindArgs (PySem.W.fnOf x qual (defArgs st) (defBody st) (defScope st) .none kV doc pm an cdv ct) ⟨us,[]⟩=pure (ps.zip us)):Binds K fd ps []:=by
 obtain⟨oc,od,kV,doc,pm,an,cdv,ct,osl,rfl,lk,hcd⟩:=F.ex;exact .all (h kV doc pm an cdv ct)
theorem bV {x qual:Str}{st:Stmt}{f:Addr}{oc:Value}{od an:Option Addr}{osl:Array (Option Value)}{kV doc pm cdv ct:Value}(l:K.lookup f=some ⟨oc,od,.func (PySem.W.fnOf x qual (defArgs st) (defBody st) (defScope st) .none kV doc pm an cdv ct),osl⟩)
  (c:PySem.W.codeIn K cdv qual=true) (k:PySem.W.keepIn K (.ref f)=true):Fun K x qual st f (PySem.W.fnOf x qual (defArgs st) (defBody st) (defScope st) .none kV doc pm an cdv ct):=⟨⟨oc,od,kV,doc,pm,an,cdv,ct,osl,rfl,l,c⟩,k⟩
end
section
variable {X:Cx}
theorem pv (i:Nat){x:Str}{pos:Pos}(hN:X.N[i]?=some x:=by rfl)(hv:Vis X.env.scope x:=by first|exact Or.inl rfl|exact Or.inr (Or.inl rfl)|exact Or.inr (Or.inr rfl))(hd:(x == ("__debug__" : Str))=false:=by decide)
  (hcd:(x == ("__classdict__" : Str))=false:=by decide):PE X (.Name x pos) (tVar i):=jG hN hv hd hcd
end
theorem ite2 {c A B:Prop}[Decidable c](h1:c->A)(h2:¬ c->B):if c then A else B:=by
 by_cases h:c
 .rw[if_pos h];exact h1 h
 .rw[if_neg h];exact h2 h
def Same (H H':Hp):Prop:=∀b o,H b=some o->H' b=some o
theorem Same.refl (H:Hp):Same H H:=λ_ _ h=>h
theorem Same.trans {H H1 H2:Hp}(a:Same H H1)(b:Same H1 H2):Same H H2:=λc o h=>b c o (a c o h)
theorem Same.seq {K:W.Frag}{H H':Hp}{a:Addr}{xs:List V}(e:Same H H')(h:SqL K H a xs):SqL K H' a xs:=by
 rcases h with (h|⟨o,h⟩)|h
 .exact .inl (.inl (e _ _ h))
 .exact .inl (.inr ⟨o,e _ _ h⟩)
 .exact .inr h
end L2
set_option maxHeartbeats 4000000
namespace L2
open PySem PySem.Spec PyProof.Rows
noncomputable def Its (z:Str):It:=⟨λi _=>i < z.length,λi H x H'=>H'=H/\∃c,z.cps.toList[i]?=some c/\x=.str ⟨#[c]⟩,λi _=>z.length<=i⟩
theorem jq {z:Str}{i:Nat}(h:i < z.length):∃c,z.cps[i]?=some c/\z.cps.toList[i]?=some c:=by have h':i < z.cps.size:=h;exact⟨z.cps[i],by simp[h'],by simp[h']⟩
theorem jr {z:Str}{i:Nat}(h:z.length<=i):z.cps[i]?=none:=by have h':z.cps.size<=i:=h;simp[h']
theorem uk {P:Program}{w:World}{K:W.Frag}{tg:Expr}(it:Addr)(z:Str)(t:Tok):Turn P w K tg (Its z) [it] it (λi h=>h.IsStrIter it "str_ascii_iterator" z t i) where
 mem:=by simp
 obj:=λi h st b hb=>by
  have e:b=it:=by simpa using hb
  subst e;obtain⟨o,e,c,d⟩:=st;exact⟨o,e,λv z=>by rw[d] at z;cases z⟩
 keep:=λi h h' st k=>by obtain⟨o,e,r⟩:=st;exact⟨o,k it (by simp) o e,r⟩
 item:=by intro X hP hw hK hc i dl s Z H E I hf st hg;subst hP hw hK;obtain⟨c,h1,h2⟩:=jq (z:=z) (i:=i) hg;obtain⟨f0,f1,f2,f3,f4,f5⟩:=hf it (by simp);refine wpAny_pyNext_ascii_item st h1 λh' ld sb=>?_;have I1:Inv X dl Z H {s with heap:=h',toks:=s.toks+1}:=I.turned (t':=s.toks+1) (λb o hb e=>(sb.2 b hb).trans e) f0 f1 f3 f4 f5;obtain⟨o,e,cl,d⟩:=id ld;exact⟨_,rfl,cD (s:={ s with heap:=h',toks:=s.toks+1}) e cl d (by decide) ⟨.str ⟨#[c]⟩,H,I1,⟨_,rfl⟩,⟨rfl,c,h2,rfl⟩,ld,λb hb=>(hf b hb).1⟩⟩
 done:=by intro X hP hw hK hc i dl s Z H E I hf st hg;subst hP hw hK;obtain⟨f0,f1,f2,f3,f4,f5⟩:=hf it (by simp);exact wpAny_pyNext_ascii_end (I.ok.hd hc) st (jr hg) λh' eb=>⟨rfl,I.turned (t':=s.toks) (λb o hb e=>eb b o hb e) f0 f1 f3 f4 f5⟩
 self:=λ_ _ _ _ _ st h=>wpAny_pyIter_striter_ascii st h
theorem ul {P:Program}{w:World}{K:W.Frag}{tg:Expr}(it:Addr)(z:Str)(t:Tok):Turn P w K tg (Its z) [it] it (λi h=>h.IsStrIter it "str_iterator" z t i) where
 mem:=by simp
 obj:=λi h st b hb=>by
  have e:b=it:=by simpa using hb
  subst e;obtain⟨o,e,c,d⟩:=st;exact⟨o,e,λv z=>by rw[d] at z;cases z⟩
 keep:=λi h h' st k=>by obtain⟨o,e,r⟩:=st;exact⟨o,k it (by simp) o e,r⟩
 item:=by intro X hP hw hK hc i dl s Z H E I hf st hg;subst hP hw hK;obtain⟨c,h1,h2⟩:=jq (z:=z) (i:=i) hg;obtain⟨f0,f1,f2,f3,f4,f5⟩:=hf it (by simp);refine wpAny_pyNext_wide_item st h1 λh' ld sb=>?_;have I1:Inv X dl Z H {s with heap:=h',toks:=s.toks+1}:=I.turned (t':=s.toks+1) (λb o hb e=>(sb.2 b hb).trans e) f0 f1 f3 f4 f5;obtain⟨o,e,cl,d⟩:=id ld;exact⟨_,rfl,cD (s:={ s with heap:=h',toks:=s.toks+1}) e cl d (by decide) ⟨.str ⟨#[c]⟩,H,I1,⟨_,rfl⟩,⟨rfl,c,h2,rfl⟩,ld,λb hb=>(hf b hb).1⟩⟩
 done:=by intro X hP hw hK hc i dl s Z H E I hf st hg;subst hP hw hK;obtain⟨f0,f1,f2,f3,f4,f5⟩:=hf it (by simp);exact wpAny_pyNext_wide_end (I.ok.hd hc) st (jr hg) λh' eb=>⟨rfl,I.turned (t':=s.toks) (λb o hb e=>eb b o hb e) f0 f1 f3 f4 f5⟩
 self:=λ_ _ _ _ _ st h=>wpAny_pyIter_striter_wide st h
section
variable {X:Cx}{tg:Expr}
def iStr (tl:TE):TI:=λZ H R=>tl Z H λx H1=>∃z,x=.str z/\R (Its z) H1
theorem js {l:Expr}{tl:TE}(hl:PE X l tl):PI X tg l (iStr tl):=by
 intro dl s Z H R I h;refine thn (hl dl s Z H _ I h) λv s1 W'=>?_;obtain⟨x,H1,I1,r1,q1⟩:=W';obtain⟨z,rfl,q⟩:=q1;obtain⟨t,rfl⟩:=r1;have fp:∀b∈[s1.heap.objs.size],FpOk X dl H1 b:=λb hb=>by
  have e:b=s1.heap.objs.size:=by simpa using hb
  subst e;exact I1.fpOk (Nat.le_refl _) (I1.hok.fresh (Nat.le_refl _))
 cases ha:z.cps.all (· < 128)
 .refine wpAny_pyIter_wide ha ?_;exact⟨s1.heap.objs.size,[s1.heap.objs.size],_,_,H1,rfl,I1.kept (t':=s1.toks) λb o e=>Heap.get?_push_of_some _ e,ul _ z t,⟨_,Heap.get?_push_size _ rfl,rfl,rfl⟩,fp,q⟩
 .refine wpAny_pyIter_ascii ha ?_;exact⟨s1.heap.objs.size,[s1.heap.objs.size],_,_,H1,rfl,I1.kept (t':=s1.toks) λb o e=>Heap.get?_push_of_some _ e,uk _ z t,⟨_,Heap.get?_push_size _ rfl,rfl,rfl⟩,fp,q⟩
end
section
variable {X:Cx}
def rSlS:V->Option Int->Option Int->Hp->VK->Prop:=λx lo hi H Q=>∃z,x=.str z/\z.length<=sizeLine/\Q (.str (Txt.slice z lo hi)) H
theorem um:SlR X rSlS:=by
 intro dl s Z H x v vl vu lo hi sl Q I rx hs pl pu h;obtain⟨z,rfl,hz,q⟩:=h;obtain⟨t,rfl⟩:=rx;refine⟨"str",_,F.slot_str_getitem.lookup,typeIs_str _ _ _,?_⟩;obtain⟨o,ho,hc,hd⟩:=hs;cases pl with
 |none=>
  cases pu with
  |none=>exact wpAny_getItem_str_slice (l:=none) (u:=none) (st:=none) ⟨o,ho,hc,hd⟩ rfl (post_val_or_str ⟨Nat.le_trans (Txt.slice_le z none none) hz,λt' k=>⟨.str (Txt.slice z none none),H,I.tok k,⟨t',rfl⟩,q⟩⟩)
  |int j uj=>exact wpAny_getItem_str_slice (l:=none) (u:=some (j,uj)) (st:=none) ⟨o,ho,hc,hd⟩ rfl (post_val_or_str ⟨Nat.le_trans (Txt.slice_le z none (some j)) hz,λt' k=>⟨.str (Txt.slice z none (some j)),H,I.tok k,⟨t',rfl⟩,q⟩⟩)
 |int i ui=>
  cases pu with
  |none=>exact wpAny_getItem_str_slice (l:=some (i,ui)) (u:=none) (st:=none) ⟨o,ho,hc,hd⟩ rfl (post_val_or_str ⟨Nat.le_trans (Txt.slice_le z (some i) none) hz,λt' k=>⟨.str (Txt.slice z (some i) none),H,I.tok k,⟨t',rfl⟩,q⟩⟩)
  |int j uj=>exact wpAny_getItem_str_slice (l:=some (i,ui)) (u:=some (j,uj)) (st:=none) ⟨o,ho,hc,hd⟩ rfl (post_val_or_str ⟨Nat.le_trans (Txt.slice_le z (some i) (some j)) hz,λt' k=>⟨.str (Txt.slice z (some i) (some j)),H,I.tok k,⟨t',rfl⟩,q⟩⟩)
def rSl (K:W.Frag):V->Option Int->Option Int->Hp->VK->Prop:=λx lo hi H Q=>rSlL K x lo hi H Q\/rSlS x lo hi H Q
theorem ur:SlR X (rSl X.K):=jl.or um
def rIndex:V->List V->Hp->VK->Prop:=λx vs H Q=>match x,vs with
 |.str z,[.str y]=>∃i r,Builtin.Str.occurrences z y 0 z.length 1=i::r/\Q (.int (i:Nat)) H
 |_,_=>False
theorem ut {z y:Str}{H:Hp}{Q:VK}:(rIndex (.str z) [.str y] H Q)=(∃i r,Builtin.Str.occurrences z y 0 z.length 1=i::r/\Q (.int (i:Nat)) H):=rfl
theorem uu:MtR X "str.index" rIndex:=by
 intro pins s Z H x vs v us Q I rx rv h;unfold rIndex at h;split at h
 rotate_left
 .exact h.elim
 rename_i z y;obtain⟨i,r,ho,q⟩:=h;obtain⟨t,rfl⟩:=rx;obtain⟨u,rfl,t',rfl⟩:=vals1 rv;exact SC.index ho ⟨.int (i:Nat),H,I.tok _,⟨_,rfl⟩,q⟩
theorem notTooLong {n:Nat}(h:n<=1000000):Builtin.Str.tooLong n=false:=by unfold Builtin.Str.tooLong;rw[sizeLine_eq];exact decide_eq_false (by lia)
theorem uv {ys:List Str}:∀{us:List Value},Vals (ys.map V.str) us->StrsAre us ys:=by
 induction ys with
 |nil=>intro us r;rw[map_nil] at r;cases r;exact .nil
 |cons y ys ih=>
  intro us r;rw[map_cons] at r;cases r with
  |cons r1 r2=>obtain⟨t,e⟩:=r1;subst e;exact .cons y t (ih r2)
def rJoin (K:W.Frag):V->List V->Hp->VK->Prop:=λx vs H Q=>∃z p ys,x=.str z/\vs=[.ref p]/\SqL K H p (ys.map V.str)/\(ys.map (·.length)).sum+ys.length * z.length<=16777216/\Q (.str (Txt.join z ys)) H
theorem uw:MtR X "str.join" (rJoin X.K):=by intro pins s Z H x vs v us Q I rx rv h;obtain⟨z,p,ys,rfl,rfl,hq,hz,q⟩:=h;obtain⟨t,rfl⟩:=rx;obtain⟨u,rfl,ru⟩:=vals1 rv;cases ru;obtain⟨its,r,pl,hl⟩:=I.list hq;exact join_list pl.isList (by simpa using uv r) hz λt' k=>⟨.str (Txt.join z ys),H,I.tok k,⟨t',rfl⟩,q⟩
def rIsi (K:W.Frag):List V->Hp->VK->Prop:=λvs H Q=>∃x T t b,vs=[x,.ty T]/\TyOf K H x t/\PySem.W.kitOne K t (.type T)=some b/\Q (.bl b) H
theorem ux:CallR X (.builtin "isinstance") (rIsi X.K):=by intro pins s Z H xs us Q I r h;obtain⟨x,T,t,b,rfl,ty,e,q⟩:=h;obtain⟨u,v,rfl,ru,rv⟩:=vals2 r;cases (show v=Value.type T from rv);exact tf I ru ty e λtk=>⟨.bl b,H,I.tok tk,rfl,q⟩
def rCatD:R2:=λx y H Q=>∃a b xs ys,x=.ref a/\y=.ref b/\H a=some (.tup xs)/\H b=some (.tup ys)/\xs.length+ys.length<=sizeLine/\∀p H',Same H H'->H' p=some (.tup (xs++ys))->Q (.ref p) H'
theorem uy:OpR X (binaryOp .Add) rCatD:=by
 intro dl s Z H x y v u Q I rx ry h;obtain⟨a,b,xs,ys,rfl,rfl,ha,hb,hz,q⟩:=h;by_cases hx:xs=[]
 .subst hx;cases rx;cases ry;obtain⟨Fb,r1,p1,_⟩:=I.tuple (SqT.of ha);obtain⟨ld,r2,p2,_⟩:=I.tuple (SqT.of hb);cases r1;obtain⟨⟨cls,dd,EZ,sl⟩,ho,hc,n,hd⟩:=id p1;obtain⟨⟨Fa,EY,EW,EX⟩,mt,Cl,n2,BT⟩:=id p2;simp only at hc hd Cl BT;subst hc hd Cl BT;exact concat_meets ⟨_,ho,rfl⟩ ⟨_,mt,rfl⟩ noFill_tuple_add seq_tuple_add PySem.F.slot_tuple_add PySem.F.entry_tuple_add (PySem.F.args_tuple_add_2 _ _)
   (tuple_addW0 a b ([]:List Value).toArray ld.toArray n n2 dd EY sl EX rfl) ⟨ho,mt,⟨.ref b,H,I,rfl,q b H (Same.refl _) hb⟩⟩
 .refine uK dl s Z H _ _ v u Q I rx ry ⟨a,b,xs,ys,rfl,rfl,SqT.of ha,SqT.of hb,hx,hz,λe=>q a H (Same.refl _) (by rw[e,append_nil];exact ha),λ_ p hp=>q p _ (λb o e=>by rw[aE (aJ e hp)];exact e) aC⟩
def rAddU (K:W.Frag):R2:=λx y H Q=>match x,y with
 |.int i,.int j=>Q (.int (i+j)) H
 |.str i,.str j=>i.length+j.length<=sizeLine/\Q (.str (i++j)) H
 |.ref a,.ref b=>(∃xs zs,H a=some (.lst xs)/\H b=some (.lst zs)/\xs.length+zs.length<=sizeLine/\∀p,H p=none->Q (.ref p) (upd H p (.lst (xs++zs))))\/
   (∃xs ys,H a=some (.tup xs)/\H b=some (.tup ys)/\xs.length+ys.length<=sizeLine/\∀p H',Same H H'->H' p=some (.tup (xs++ys))->Q (.ref p) H')
 |_,_=>False
theorem jt:OpR X (binaryOp .Add) (rAddU X.K):=by
 intro dl s Z H x y v u Q I rx ry h;cases x with
 |int i=>
  cases y with
  |int j=>exact t8 dl s Z H _ _ v u Q I rx ry ⟨i,j,rfl,rfl,h⟩
  |_=>exact h.elim
 |str i=>
  cases y with
  |str j=>exact tL dl s Z H _ _ v u Q I rx ry ⟨i,j,rfl,rfl,h.1,h.2⟩
  |_=>exact h.elim
 |ref a=>
  cases y with
  |ref b=>
   rcases h with⟨xs,zs,h1,h2,h3,h4⟩|⟨xs,ys,h1,h2,h3,h4⟩
   .exact uc dl s Z H _ _ v u Q I rx ry ⟨a,b,xs,zs,rfl,rfl,h1,h2,h3,h4⟩
   .exact uy dl s Z H _ _ v u Q I rx ry ⟨a,b,xs,ys,rfl,rfl,h1,h2,h3,h4⟩
  |_=>exact h.elim
 |_=>exact h.elim
theorem uz {K:W.Frag}{i j:Int}{H:Hp}{Q:VK}:(rAddU K (.int i) (.int j) H Q)=(Q (.int (i+j)) H):=rfl
theorem vA {K:W.Frag}{i j:Str}{H:Hp}{Q:VK}:(rAddU K (.str i) (.str j) H Q)=(i.length+j.length<=sizeLine/\Q (.str (i++j)) H):=rfl
end
section
variable {X:Cx}
def rMulU:R2:=λx y H Q=>match x,y with
 |.int i,.int j=>CMul i j/\Q (.int (i * j)) H
 |.str z,.int k=>MulOk z k/\Q (.str (Txt.mul z k)) H
 |_,_=>False
theorem ju:OpR X (binaryOp .Mult) rMulU:=by
 intro dl s Z H x y v u Q I rx ry h;cases x with
 |int i=>
  cases y with
  |int j=>exact tD dl s Z H _ _ v u Q I rx ry ⟨i,j,rfl,rfl,h.1,h.2⟩
  |_=>exact h.elim
 |str z=>
  cases y with
  |int k=>obtain⟨t,rfl⟩:=rx;obtain⟨t',rfl⟩:=ry;exact SB.mul h.1 λt' k'=>⟨.str (Txt.mul z k),H,I.tok k',⟨t',rfl⟩,h.2⟩
  |_=>exact h.elim
 |_=>exact h.elim
theorem vB {i j:Int}{H:Hp}{Q:VK}:(rMulU (.int i) (.int j) H Q)=(CMul i j/\Q (.int (i * j)) H):=rfl
theorem vC {z:Str}{k:Int}{H:Hp}{Q:VK}:(rMulU (.str z) (.int k) H Q)=(MulOk z k/\Q (.str (Txt.mul z k)) H):=rfl
def rLenU (K:W.Frag):List V->Hp->VK->Prop:=λxs H Q=>match xs with
 |[.str z]=>z.length<=sizeLine/\Q (.int z.length) H
 |[.ref p]=>∃ys,(SqL K H p ys\/SqT K H p ys)/\Q (.int ys.length) H
 |_=>False
theorem vD:CallR X (.builtin "len") (rLenU X.K):=by
 intro pins s Z H xs us Q I r h;unfold rLenU at h;split at h
 .exact uX pins s Z H _ us Q I r ⟨_,rfl,h.1,h.2⟩
 .obtain⟨ys,h1,h2⟩:=h;exact uW pins s Z H _ us Q I r ⟨_,ys,rfl,h1,h2⟩
 .exact h.elim
theorem vE {K:W.Frag}{z:Str}{H:Hp}{Q:VK}:(rLenU K [.str z] H Q)=(z.length<=sizeLine/\Q (.int z.length) H):=rfl
theorem fb {K:W.Frag}{p:Addr}{H:Hp}{Q:VK}:(rLenU K [.ref p] H Q)=(∃ys,(SqL K H p ys\/SqT K H p ys)/\Q (.int ys.length) H):=rfl
def rOrdU:List V->Hp->VK->Prop:=λxs H Q=>match xs with
 |[.str z]=>z.length=1/\Q (.int (z.cps.getD 0 0:Nat)) H
 |_=>False
theorem vF:CallR X (.builtin "ord") rOrdU:=by
 intro pins s Z H xs us Q I r h;unfold rOrdU at h;split at h
 .exact tM pins s Z H _ us Q I r ⟨_,rfl,h.1,h.2⟩
 .exact h.elim
theorem vG {c:Nat}{H:Hp}{Q:VK}:rOrdU [.str ⟨#[c]⟩] H Q↔Q (.int (c:Nat)) H:=⟨λh=>h.2,λh=>⟨rfl,h⟩⟩
theorem fc:bootBuiltins "int"=some (.type "int"):=by fail "k"
theorem vH:bootBuiltins "str"=some (.type "str"):=by fail "k"
theorem vI:bootBuiltins "tuple"=some (.type "tuple"):=by fail "k"
def rInU:R2:=λx y H Q=>match x,y with
 |.str i,.str j=>Q (.bl (!(Builtin.Str.occurrences j i 0 j.length 1).isEmpty)) H
 |_,_=>False
theorem fe:OpR X (compareOp .In) rInU:=by
 intro pins s Z H x y v u Q I rx ry h;cases x with
 |str i=>
  cases y with
  |str j=>exact tH pins s Z H _ _ v u Q I rx ry ⟨i,j,rfl,rfl,h⟩
  |_=>exact h.elim
 |_=>exact h.elim
theorem vJ {c:Nat}{j:Str}{H:Hp}{Q:VK}:rInU (.str ⟨#[c]⟩) (.str j) H Q↔Q (.bl (decide (c∈j.cps.toList))) H:=by show Q (.bl (!(Builtin.Str.occurrences j ⟨#[c]⟩ 0 j.length 1).isEmpty)) H↔_;rw[StrLaws.found_one]
def rIsN (neg:Bool):R2:=λx y H Q=>y=.non/\Q (.bl (if neg then !decide (x=.non) else decide (x=.non))) H
theorem vK:OpR X (compareOp .Is) (rIsN false):=λpins s Z H x y v u Q I rx ry h=>tI pins s Z H x y v u Q I rx ry h
theorem vL:OpR X (compareOp .IsNot) (rIsN true):=λpins s Z H x y v u Q I rx ry h=>tJ pins s Z H x y v u Q I rx ry h
theorem vM {x:V}{H:Hp}{Q:VK}:rIsN false x .non H Q↔Q (.bl (decide (x=.non))) H:=⟨λh=>h.2,λh=>⟨rfl,h⟩⟩
theorem vN {x:V}{H:Hp}{Q:VK}:rIsN true x .non H Q↔Q (.bl (!decide (x=.non))) H:=⟨λh=>h.2,λh=>⟨rfl,h⟩⟩
noncomputable def kindV (x:V)(H:Hp):Option String:=match x with
 |.non=>some "NoneType"
 |.bl _=>some "bool"
 |.int _=>some "int"
 |.str _=>some "str"
 |.ref a=>match H a with
  |some (.lst _)=>some "list"
  |some (.tup _)=>some "tuple"
  |some (.dK _)=>some "dict"
  |_=>none
 |_=>none
noncomputable def subT (a b:String):Bool:=a == b || (a == "bool" && b == "int")
theorem vO (K:W.Frag):∀a∈["NoneType","bool","int","str","list","tuple","dict"],∀b∈["bool","int","str","list","tuple"],PySem.W.kitOne K (.type a) (.type b)=some (subT a b):=by intro a ha b hb;simp only[mem_cons,not_mem_nil,or_false] at ha hb;rcases ha with rfl|rfl|rfl|rfl|rfl|rfl|rfl <;> rcases hb with rfl|rfl|rfl|rfl|rfl <;> with_unfolding_all kernel_rfl
def rIsiU:List V->Hp->VK->Prop:=λvs H Q=>match vs with
 |[x,.ty T]=>∃k,kindV x H=some k/\T∈["bool","int","str","list","tuple"]/\Q (.bl (subT k T)) H
 |_=>False
theorem vP:CallR X (.builtin "isinstance") rIsiU:=by
 intro dl s Z H xs us Q I r h;unfold rIsiU at h;split at h
 .rename_i x T;obtain⟨k,hk,hT,q⟩:=h;have ld:TyOf X.K H x (.type k)/\k∈["NoneType","bool","int","str","list","tuple","dict"]:=by
   unfold kindV at hk;split at hk
   .cases hk;exact⟨.non,by decide⟩
   .cases hk;exact⟨.bl _,by decide⟩
   .cases hk;exact⟨.int _,by decide⟩
   .cases hk;exact⟨.str _,by decide⟩
   .split at hk
    .rename_i e;cases hk;exact⟨.lst e,by decide⟩
    .rename_i e;cases hk;exact⟨.tup e,by decide⟩
    .rename_i e;cases hk;exact⟨.dK e,by decide⟩
    .cases hk
   .cases hk
  exact ux dl s Z H _ us Q I r ⟨x,T,.type k,subT k T,rfl,ld.1,vO X.K k ld.2 T hT,q⟩
 .exact h.elim
end
section
variable {Z:St}{H:Hp}{Q:VK}{D:Ends}{K:W.Frag}{ta tb te:TE}{tt tu:TT}{t u:TS}{aa ab:TA}{v x y:V}{r r':R2}
theorem vQ {i:Nat}:(tVar i Z H Q)=(∃v,Z[i]?=some (some v)/\Q v H):=rfl
theorem rd_C:(tC v Z H Q)=(Q v H):=rfl
theorem ff:(tSeq t u D Z H)=(t {D with nx:=u D} Z H):=rfl
theorem vR {g:TG}:(tAsg te g D Z H)=(te Z H λx H1=>g x Z H1 D.nx):=rfl
theorem vS {i:Nat}{R:St->Hp->Prop}:(gName i v Z H R)=(R (Z.set i (some v)) H):=rfl
theorem vT:(tIfS tt t u D Z H)=(tt Z H λb H1=>if b=true then t D Z H1 else u D Z H1):=rfl
theorem vU:(tNext D Z H)=(D.nx Z H):=rfl
theorem vV:(tRet te D Z H)=(te Z H D.rt):=rfl
theorem vW:(tDrop te D Z H)=(te Z H λ_ H1=>D.nx Z H1):=rfl
theorem vX:(tOp r ta tb Z H Q)=(ta Z H λx H1=>tb Z H1 λy H2=>r x y H2 Q):=rfl
theorem vY {R:Bool->Hp->Prop}:(tTest te Z H R)=(te Z H λx H'=>∃k,x=.bl k/\R k H'):=rfl
theorem rd_B {R:Bool->Hp->Prop}:(tB te Z H R)=(te Z H λx H'=>∃k,x=.bl k/\R k H'):=rfl
theorem vZ {R:Bool->Hp->Prop}:(tAnd tt tu Z H R)=(tt Z H λc H1=>if c=true then tu Z H1 R else R false H1):=rfl
theorem va {R:Bool->Hp->Prop}:(tOr tt tu Z H R)=(tt Z H λc H1=>if c=true then R true H1 else tu Z H1 R):=rfl
theorem vc {R:Bool->Hp->Prop}:(tNot tt Z H R)=(tt Z H λc H1=>R (!c) H1):=rfl
theorem vd:(tAndV ta tb Z H Q)=(ta Z H λx H1=>∃c,x=.bl c/\if c=true then tb Z H1 Q else Q (.bl false) H1):=rfl
theorem ve:(tOrV ta tb Z H Q)=(ta Z H λx H1=>∃c,x=.bl c/\if c=true then Q (.bl true) H1 else tb Z H1 Q):=rfl
theorem vf:(tNotV ta Z H Q)=(ta Z H λx H1=>∃c,x=.bl c/\Q (.bl (!c)) H1):=rfl
theorem vg:(tIf tt ta tb Z H Q)=(tt Z H λc H1=>if c=true then ta Z H1 Q else tb Z H1 Q):=rfl
theorem vh {tc:TE}:(tChain r r' ta tb tc Z H Q)=(ta Z H λx H1=>tb Z H1 λy H2=>r x y H2 λz H3=>∃k,z=.bl k/\(if k=true then tc Z H3 λw' H4=>r' y w' H4 Q else Q (.bl false) H3)):=rfl
theorem vi {R:List V->Hp->Prop}:(tNil Z H R)=(R [] H):=rfl
theorem vj {R:List V->Hp->Prop}:(tCons te aa Z H R)=(te Z H λx H1=>aa Z H1 λxs H2=>R (x::xs) H2):=rfl
theorem vk:(tLst aa Z H Q)=(aa Z H λxs H1=>xs.length<=sizeLine/\∀p,H1 p=none->Q (.ref p) (upd H1 p (.lst xs))):=rfl
theorem vn {sp:Sp}{dvs:List V}{E:XK}:(tCall sp dvs E aa Z H Q)=(aa Z H λvs H1=>sp (vs++dvs) H1 Q E):=rfl
theorem vo {c:List V->Hp->VK->Prop}:(tCB c aa Z H Q)=(aa Z H λvs H1=>c vs H1 Q):=rfl
theorem vp {T:String}{m:V->List V->Hp->VK->Prop}:(tBM K T m te aa Z H Q)=(te Z H λx H1=>tyV K T x H1/\aa Z H1 λxs H2=>m x xs H2 Q):=rfl
theorem vt {m:V->Option Int->Option Int->Hp->VK->Prop}{tl th:TO}:(tSl m te tl th Z H Q)=(te Z H λx H1=>tl Z H1 λl H2=>th Z H2 λu H3=>m x l u H3 Q):=rfl
theorem vv {R:Option Int->Hp->Prop}:(tNoPart Z H R)=(R none H):=rfl
theorem vw {R:Option Int->Hp->Prop}:(tPart te Z H R)=(te Z H λx H1=>∃i,x=.int i/\R (some i) H1):=rfl
theorem vx {z:Str}:tyV K "str" (.str z) H↔True:=⟨λ_=>trivial,λ_=>rfl⟩
theorem rd_I {C:Int->Int->Prop}{g:Int->Int->V}{i j:Int}:rI C g (.int i) (.int j) H Q↔C i j/\Q (g i j) H:=
 ⟨λ⟨_,_,h1,h2,h3⟩=>by cases h1;cases h2;exact h3,λh=>⟨i,j,rfl,rfl,h⟩⟩
theorem dJ {g:Int->Int->V}{i j:Int}:rI0 g (.int i) (.int j) H Q↔Q (g i j) H:=
 ⟨λ⟨_,_,h1,h2,h3⟩=>by cases h1;cases h2;exact h3,λh=>⟨i,j,rfl,rfl,h⟩⟩
theorem vy {i j:Int}:rEq (.int i) (.int j) H Q↔Q (.bl (decide (i=j))) H:=by unfold rEq scal;simp only[true_and,V.int.injEq]
theorem aF {i j:Str}:rEq (.str i) (.str j) H Q↔Q (.bl (decide (i=j))) H:=by unfold rEq scal;simp only[true_and,V.str.injEq]
theorem jv {i j:Int}:rNe (.int i) (.int j) H Q↔Q (.bl (!decide (i=j))) H:=by unfold rNe scal;simp only[true_and,V.int.injEq]
theorem cJ {i j:Str}:rNe (.str i) (.str j) H Q↔Q (.bl (!decide (i=j))) H:=by unfold rNe scal;simp only[true_and,V.str.injEq]
theorem vz {i j:Bool}:rNe (.bl i) (.bl j) H Q↔Q (.bl (!decide (i=j))) H:=by unfold rNe scal;simp only[true_and,V.bl.injEq]
theorem wA {z:Str}{i:Int}:rIx K (.str z) (.int i) H Q↔∃c,z.length<=sizeLine/\atI z.cps.toList i=some c/\Q (.str ⟨#[c]⟩) H:=by
 constructor
 .rintro (⟨p,xs,j,v,h,_⟩|⟨p,xs,j,v,h,_⟩|⟨z',j,c,h1,h2,h3,h4,h5⟩)
  .cases h
  .cases h
  .cases h1;cases h2;exact⟨c,h3,h4,h5⟩
 .rintro⟨c,h3,h4,h5⟩;exact .inr (.inr ⟨z,i,c,rfl,rfl,h3,h4,h5⟩)
theorem jw {z:Str}{lo hi:Option Int}:rSl K (.str z) lo hi H Q↔z.length<=sizeLine/\Q (.str (Txt.slice z lo hi)) H:=by
 constructor
 .rintro (⟨a,xs,h,_⟩|⟨z',h1,h2,h3⟩)
  .cases h
  .cases h1;exact⟨h2,h3⟩
 .rintro⟨h2,h3⟩;exact .inr ⟨z,rfl,h2,h3⟩
end
section
variable {Z:St}{H:Hp}{Q:VK}{K:W.Frag}
inductive IxE (K:W.Frag)(H:Hp)(p:Addr)(i:Int)(Q:V->Prop):Prop
 |mk (xs:List V) (v:V) (h:SqL K H p xs\/SqT K H p xs) (a:atI xs i=some v) (q:Q v):IxE K H p i Q
theorem fh {p:Addr}{i:Int}:rIx K (.ref p) (.int i) H Q↔IxE K H p i λv=>Q v H:=by
 constructor
 .rintro (⟨p',xs,j,v,h,h2,h3,h4,h5⟩|⟨p',xs,j,v,h,h2,h3,h4,h5⟩|⟨z',j,c,h1,_⟩)
  .cases h;cases h2;exact⟨xs,v,.inl h3,h4,h5⟩
  .cases h;cases h2;exact⟨xs,v,.inr h3,h4,h5⟩
  .cases h1
 .rintro⟨xs,v,h|h,h2,h3⟩
  .exact .inl ⟨p,xs,i,v,rfl,rfl,h,h2,h3⟩
  .exact .inr (.inl ⟨p,xs,i,v,rfl,rfl,h,h2,h3⟩)
theorem cx_K {CX:CXT}{P:Program}{w:World}{mg:Str->Option Value}{base:Heap}{N:List Str}{qual:Str}{scope:Scope}{f:Addr}{cd:Value}{A:Around}{outer:List Env}{s:Shared}{E:XK} :
  (cxOf CX P w K mg base N qual scope f cd A outer s H E).K=K:=rfl
end
def LoopI (J:It)(g:TG)(tb:TS)(D:Ends)(Z:St)(H:Hp):Prop:=∃W:Nat->Nat->St->Hp->Prop,(∃m,W 0 m Z H)/\∀i m Z H,W i m Z H ->
 (J.stop i H/\D.nx Z H)\/(J.go i H/\∃N:St->Hp->Prop,(∀Z' H',N Z' H'->∃m',m' < m/\W (i+1) m' Z' H')/\∀x H',J.yld i H x H'->g x Z H' λZ2 H2=>tb {D with nx:=N,ct:=N,bk:=D.nx} Z2 H2)
section
variable {Z:St}{H:Hp}{D:Ends}{K:W.Frag}{te:TE}{g:TG}{tb:TS}{aa:TA}
theorem wB:(tFor (iList K te) g tb D Z H)=(te Z H λx H1=>∃a,x=.ref a/\(∃xs,SqL K H1 a xs)/\LoopI (Itl K a) g tb D Z H1):=rfl
theorem wC:(tFor (iRng1 aa) g tb D Z H)=(aa Z H λvs H1=>∃j:Int,vs=[.int j]/\-(2 ^ 62)<=j/\j < 2 ^ 62/\LoopI (Itr 0 j.toNat) g tb D Z H1):=rfl
theorem fi {a:Addr}{xs:List V}(Pv:Nat->St->Hp->Prop)(h0:Pv 0 Z H)(hl:∀i Z H,i<=xs.length->Pv i Z H->SqL K H a xs)
  (hs:∀i x Z H,xs[i]?=some x->Pv i Z H->g x Z H λZ2 H2=>tb {D with nx:=Pv (i+1),ct:=Pv (i+1),bk:=D.nx} Z2 H2) (hd:∀Z H,Pv xs.length Z H->D.nx Z H):LoopI (Itl K a) g tb D Z H:=sw Pv h0 hl hs hd
theorem cK {lo:Int}{n:Nat}(Pv:Nat->St->Hp->Prop)(h0:Pv 0 Z H)
  (hs:∀i Z H,i < n->Pv i Z H->g (.int (lo+i)) Z H λZ2 H2=>tb {D with nx:=Pv (i+1),ct:=Pv (i+1),bk:=D.nx} Z2 H2) (hd:∀Z H,Pv n Z H->D.nx Z H):LoopI (Itr lo n) g tb D Z H:=t6 Pv h0 hs hd
end
section
variable {prog:Program}{w:World}{A:Around}{R:Result->Shared->Prop}{s:Shared}
theorem wD {elt target iter:Expr}{ifs:List Expr}{scope:Scope}{pos:Pos}{it acc:Value}{env:Env}(I:Nat->Shared->Prop)
  (turn:∀n s,I n s->wpAny (model prog w) A (pyNext it) (λr s₁=>match r with
   |none=>R (.ok .next) s₁
   |some v=>wpAny (model prog w) A (letOwnedTupleGo target it v) (λ_ s₁'=>wpAny (model prog w) A (assign target env v) (λ_ s₂=>
     wpAny (model prog w) A (forIn ifs true λc r=>if r=true then do let ok <- isTrue c env (eval c env);pure (ForInStep.yield ok) else pure (ForInStep.yield r)) (λok s₃=>
      if ok=true then wpAny (model prog w) A (eval elt env) (λx s₄=>
       wpAny (model prog w) A (call (.builtin "list.append") [acc,x]) (λ_ s₅=>∃m,m < n/\I m s₅) (λ_ _=>False) s₄) (λ_ _=>False) s₃
      else ∃m,m < n/\I m s₃) (λ_ _=>False) s₂) (λ_ _=>False) s₁') (λ_ _=>False) s₁) (λ_ _=>False) s)
  (n:Nat) (h:I n s):codeAny (model prog w) A (.compLoop (.ListComp elt [⟨target,iter,ifs,0⟩] scope pos) 0 it acc env) R s:=by
 refine codeAny_loop rfl I (λn s hI=>?_) n h;show wpAny _ A ((compTurn (.ListComp elt [⟨target,iter,ifs,0⟩] scope pos) 0 it acc env).onRaise (λx=>do noteFrame x env;theTreesLotGoes x)) _ _ s;refine wpAny_noted ?_;rw[compTurn_list];refine wpAny_bind (wpAny_standAt (wpAny_bind (wpAny_mono (turn n s hI) (λr s₁ h₁=>?_) λ_ _ h'=>h'.elim)));cases r with
 |none=>exact wpAny_pure h₁
 |some v=>
  refine wpAny_bind (wpAny_mono h₁ (λ_ s₁' dl=>wpAny_bind (wpAny_mono dl (λ_ s₂ h₂=>wpAny_bind (wpAny_mono h₂ (λok s₃ h₃=>?_) λ_ _ h'=>h'.elim)) λ_ _ h'=>h'.elim)) λ_ _ h'=>h'.elim);cases ok with
  |false=>exact wpAny_pure ⟨rfl,h₃⟩
  |true=>exact wpAny_bind (wpAny_bind (wpAny_mono h₃ (λx s₄ h₄=>wpAny_bind (wpAny_mono h₄ (λ_ s₅ h₅=>wpAny_pure (wpAny_pure ⟨rfl,h₅⟩)) λ_ _ h'=>h'.elim)) λ_ _ h'=>h'.elim))
end
noncomputable def compCx (X:Cx)(N':List Str)(scope:Scope)(cl:List (Str×Addr))(s:Shared)(H:Hp)(fp:List Addr):Cx:=
 { X with N:=N',s₀:=s,H₀:=H,env:=compEnvC scope cl s.heap.objs.size X.env,outer:=X.stack,stack:=X.stack,ex:=fp,fn:=λ_=>false,pn:=[],xe:=λ_ _=>False}
inductive Frees (X:Cx)(rs:Scope)(cl:List (Str×Addr)):List Str->Tq->Prop where
 |nil:Frees X rs cl [] []
 |cons {y:Str}{i:Nat}{fx:List Str}{fr:Tq} (h1:X.N[i]?=some y) (h2:X.env.kindOf y=some .cell) (h3:rs.names.lookup y=some .cell) (h4:cl.lookup y=X.env.cells.lookup y) (r:Frees X rs cl fx fr):Frees X rs cl (y::fx) (i::fr)
noncomputable def frV (Z:St)(fr:Tq):St:=fr.map λi=>(Z[i]?).getD none
theorem Frees.len {X:Cx}{rs:Scope}{cl:List (Str×Addr)}{fx:List Str}{fr:Tq}(F:Frees X rs cl fx fr):fr.length=fx.length:=by
 induction F with
 |nil=>rfl
 |cons _ _ _ _ _ ih=>simp[ih]
theorem Frees.at {X:Cx}{rs:Scope}{cl:List (Str×Addr)}{Z:St}{fx:List Str}{fr:Tq}(F:Frees X rs cl fx fr):∀(j:Nat) (y:Str) (v:V),fx[j]?=some y->(frV Z fr)[j]?=some (some v) ->
  ∃i:Nat,X.N[i]?=some y/\Z[i]?=some (some v)/\X.env.kindOf y=some .cell/\rs.names.lookup y=some .cell/\cl.lookup y=X.env.cells.lookup y:=by
 induction F with
 |nil=>intro j y v h _;cases h
 |@cons z i fx fr h1 h2 h3 h4 r ih=>
  intro j y v h hv;cases j with
  |zero=>
   cases h;refine⟨i,h1,?_,h2,h3,h4⟩;have hv:some ((Z[i]?).getD none)=some (some v):=hv;cases e:Z[i]? with
   |none=>rw[e] at hv;cases hv
   |some o=>rw[e] at hv;exact hv
  |succ j=>exact ih j y v h hv
theorem Frees.mem {X:Cx}{rs:Scope}{cl:List (Str×Addr)}{fx:List Str}{fr:Tq}(F:Frees X rs cl fx fr):∀y∈fx,X.env.kindOf y=some .cell/\cl.lookup y=X.env.cells.lookup y:=by
 induction F with
 |nil=>intro y h;cases h
 |cons h1 h2 h3 h4 r ih=>
  intro y h;rcases mem_cons.mp h with rfl|h
  .exact⟨h2,h4⟩
  .exact ih y h
section
variable {X:Cx}{pins:List (Addr×Obj)}{Z:St}{H1:Hp}{s3:Shared}{x:Str}{fx:List Str}{fr:Tq}{scope:Scope}{cl:List (Str×Addr)}{fp:List Addr}
theorem jx {N':List Str}{pins':List (Addr×Obj)}{Z':St}{H2:Hp}{s':Shared}{h':Heap}(I:Inv X pins Z H1 s3)(J:Inv (compCx X N' scope cl s3 H1 fp) pins' Z' H2 s')(ffp:∀b∈fp,FpOk X pins H1 b)
  (sb:Heap.SameBut s3.heap.objs.size s'.heap h'):Inv X pins Z H2 {s' with heap:=h' }:=by
 have k:∀b u,b≠s3.heap.objs.size->s'.heap.get? b=some u->h'.get? b=some u:=λb u hb e=>sb.extBut b u hb e;have lt:∀b u,s3.heap.get? b=some u->b≠s3.heap.objs.size:=λb u e=>Nat.ne_of_lt (Heap.lt_size e);have u:Un (frs X.stack) fp H1 H2 s3.heap s'.heap:=J.base;have u':Un (frs X.stack) fp H1 H2 s3.heap h':=
  ⟨λb o q n hb hx=>k b o (lt b o q) (u.keep b o q n hb hx),λb o q n hb hx=>by
    obtain⟨sl,e⟩:=u.slot b o q n hb hx;exact⟨sl,k b _ (lt b o q) e⟩,u.free,λb o q hx=>by
    obtain⟨o',e⟩:=u.there b o q hx;exact⟨o',k b _ (lt b o q) e⟩,u.tups,u.frzs,u.tbls⟩
 have nC:H2 s3.heap.objs.size=none:=J.free;have ld:HOk X.prog X.w H2 h':=λb uo e=>by
  refine (J.hok b uo e).stay (λc v hc q=>k c v ?_ q) (λ_ q=>q) λ_ _ q=>q;rintro rfl;rcases hc with z|z
  .rw[<- z,nC] at e;cases e
  .rw[nC] at z;cases z
 have os:s'.os=s3.os:=J.os;have mt:=J.bare;obtain⟨hh,g,d,t,dl⟩:=s';obtain rfl:dl=s3.os:=os;have BT:=I.call (h':=h') (g':=g) (d':=d) (t':=t) (ch:=fp) u' ld mt λb hb=>by obtain⟨f0,f1,f2,f3,f4,f5⟩:=ffp b hb;exact⟨f3,f1,f4,f5⟩
 exact BT
end
def PF (X:Cx)(ifs:List Expr)(t:TT):Prop:=
 ∀(pins:List (Addr×Obj)) (s:Shared) (Z:St) (H:Hp) (Q:Bool->Hp->Prop),Inv X pins Z H s->t Z H Q ->
  wpAny (model X.prog X.w) X.A (forIn ifs true λc r=>if r=true then do let ok <- isTrue c X.env (eval c X.env);pure (ForInStep.yield ok) else pure (ForInStep.yield r)) (TP X pins Z Q) X.xe s
def tYes:TT:=λ_ H Q=>Q true H
theorem al {X:Cx}:PF X [] tYes:=λ_ _ _ H _ I h=>wpAny_tests_nil ⟨H,I,h⟩
theorem cL {X:Cx}{c:Expr}{t:TT}(h:PT X c t):PF X [c] t:=λpins s Z H Q I q=>wpAny_tests_one (h pins s Z H Q I q)
def CompI (J:It)(p:Addr)(fv:St)(tt:TT)(te:TE)(Q:VK)(H1:Hp):Prop:=
 ∃W:Nat->Nat->List V->Hp->Prop,(∃m,W 0 m [] (upd H1 p (.lst [])))/\∀i m ys H2,W i m ys H2->H2 p=some (.lst ys)/\
  ((J.stop i H2/\Q (.ref p) H2)\/(J.go i H2/\ys.length < sizeLine/\∀x H3,J.yld i H2 x H3->tt (some x::fv) H3 λb H4=>
   if b=true then te (some x::fv) H4 λy H5=>H5 p=some (.lst ys)/\∃m',m' < m/\W (i+1) m' (ys++[y]) (upd H5 p (.lst (ys++[y])))
   else ∃m',m' < m/\W (i+1) m' ys H4))
def tComp (wi:TI)(fr:Tq)(tt:TT)(te:TE):TE:=λZ H Q=>wi Z H λJ H1=>∀p,H1 p=none->CompI J p (frV Z fr) tt te Q H1
section
variable {X:Cx}{elt iter:Expr}{x:Str}{px pos:Pos}{ifs:List Expr}{scope:Scope}{cl:List (Str×Addr)}{fx:List Str}{fr:Tq}{wi:TI}{tt:TT}{te:TE}
end
section
variable {p:Addr}{fv:St}{te:TE}{Q:VK}{H1:Hp}
theorem jy {z:Str}(hz:z.length<=sizeLine)(hp:H1 p=none)(f:Nat->V)
  (he:∀c,c∈z.cps.toList->∀(H':Hp) (R:VK),(∀H'',Same H' H''->R (f c) H'')->te (some (.str ⟨#[c]⟩)::fv) H' R)
  (hQ:∀H',Same H1 H'->H' p=some (.lst (z.cps.toList.map f))->Q (.ref p) H'):CompI (Its z) p fv tYes te Q H1:=by
 have hl:z.cps.toList.length=z.length:=by simp[Str.length]
 refine⟨λi m ys H2=>m=z.length - i/\i<=z.length/\ys=(z.cps.toList.take i).map f/\H2 p=some (.lst ys)/\Same H1 H2,⟨z.length,by simp,Nat.zero_le _,by simp,aC,λb o e=>by rw[aE (aJ e hp)];exact e⟩,?_⟩;rintro i m ys H2 ⟨rfl,hi,rfl,dl,sm⟩;refine⟨dl,?_⟩;by_cases ld:i < z.length
 .refine .inr ⟨ld,?_,λx H3 y=>?_⟩
  .rw[length_map,length_take];lia
  .obtain⟨rfl,c,hc,rfl⟩:=y;unfold tYes;dsimp only;rw[if_pos rfl];refine he c (mem_of_getElem? hc) _ _ λH5 s5=>⟨s5 _ _ dl,z.length - (i+1),by lia,rfl,ld,?_,aC,λb o e=>?_⟩
   .rw[take_add_one,hc,map_append];rfl
   .rw[aE (aJ e hp)];exact s5 _ _ (sm _ _ e)
 .have e:i=z.length:=by lia
  subst e;refine .inl ⟨Nat.le_refl _,hQ H2 sm ?_⟩;rw[dl,<- hl,take_length]
end
section
variable {Z:St}{H:Hp}{Q:VK}{K:W.Frag}{tl te:TE}{tt:TT}{fr:Tq}
theorem wE:frV Z []=[]:=rfl
theorem wF {i:Nat}{r:Tq}:frV Z (i::r)=(Z[i]?).getD none::frV Z r:=rfl
theorem wG {z:Str}{p:Addr}:rJoin K (.str z) [.ref p] H Q↔∃ys:List Str,SqL K H p (ys.map V.str)/\(ys.map (·.length)).sum+ys.length * z.length<=16777216/\Q (.str (Txt.join z ys)) H:=by
 constructor
 .rintro⟨z',p',ys,h1,h2,h3⟩;cases h1;cases h2;exact⟨ys,h3⟩
 .rintro⟨ys,h⟩;exact⟨z,p,ys,rfl,rfl,h⟩
theorem wH:(tComp (iStr tl) fr tt te Z H Q)=(tl Z H λx H1=>∃z,x=.str z/\∀p,H1 p=none->CompI (Its z) p (frV Z fr) tt te Q H1):=rfl
theorem wI:(tComp (iList K tl) fr tt te Z H Q)=(tl Z H λx H1=>∃a,x=.ref a/\(∃xs,SqL K H1 a xs)/\∀p,H1 p=none->CompI (Itl K a) p (frV Z fr) tt te Q H1):=rfl
end
section
variable {X:Cx}{K:W.Frag}
theorem dL (h:X.K=K):OpR X (binaryOp .Add) (rAddU K):=by subst h;exact jt
theorem jz (h:X.K=K):IxR X (rIx K):=by subst h;exact uO
theorem k6 (h:X.K=K):SlR X (rSl K):=by subst h;exact ur
theorem wJ (h:X.K=K):CallR X (.builtin "len") (rLenU K):=by subst h;exact vD
theorem dM (h:X.K=K):MtR X "str.join" (rJoin K):=by subst h;exact uw
theorem cM {tg l:Expr}{tl:TE}(h:X.K=K)(hl:PE X l tl):PI X tg l (iList K tl):=by subst h;exact sq hl
variable {o e:Expr}{es:List Expr}{to:TE}{t:TA}{name:Str}{apos cpos:Pos}{T id:String}{r:V->List V->Hp->VK->Prop}
theorem aZ (h:X.K=K)(pa:PlainAttrs T)(slot:Slot T name id)(hty:typeOf (.builtin id)=pure (.type "method_descriptor"))(hm:MtR X id r)(ho:PE X o to)(ha:PA X (e::es) t)
  (hbase:attributeBase o name X.env (eval o X.env)=eval o X.env:=by rfl)
  (hfew:((backTo cpos (starEach (e::es) X.env)).all (λx=>!x.1) && (backToKw cpos (keywordEach [] X.env)).all (λx=>x.1.isSome)
   && decide ((e::es).length+([]:List Keyword).length+(if ([]:List Keyword).isEmpty then 0 else 1) < 30))=true:=by rfl)
  (hline:(apos.endLine == cpos.line)=true:=by rfl) (hs:starEach (e::es) X.env=(false,eval e X.env)::starEach es X.env:=by rfl) (hplain:(backTo cpos (starEach es X.env)).any (·.1)=false:=by rfl) :
  PE X (.Call (.Attribute o name apos) (e::es) [] cpos) (tBM K T r to t):=by
 subst h;exact ua pa slot hty hm ho ha hbase hfew hline hs hplain
end
structure FunD (K:W.Frag)(x qual:Str)(st:Stmt)(f:Addr)(fd:FuncData)(T:Addr):Prop where
 ex:∃(oc:Value) (od:Option Addr) (kV doc pm:Value) (an:Option Addr) (cdv ct:Value) (osl:Array (Option Value)),
  fd=PySem.W.fnOf x qual (defArgs st) (defBody st) (defScope st) (.ref T) kV doc pm an cdv ct/\K.lookup f=some ⟨oc,od,.func fd,osl⟩/\PySem.W.codeIn K cdv qual=true
 kp:PySem.W.keepIn K (.ref f)=true
section
variable {P:Program}{w:World}{K:W.Frag}{mg:Str->Option Value}{base:Heap}
theorem FunD.ok {x qual:Str}{st:Stmt}{f T:Addr}{fd:FuncData}{N ps:List Str}{k:Nat}{sp:Sp}(F:FunD K x qual st f fd T)(S:FnScope N ps (defScope st))(len:∀vs H Q E,sp vs H Q E->vs.length=ps.length)
  (hbody:∀(cdv:Value) (A:Around) (outer:List Env) (s:Shared) (H:Hp) (vs:List V) (Q:VK) (E:XK),Room k (A.deeper (envOfC qual (defScope st) s.heap.objs.size f cdv))->sp vs H Q E ->
   ∃t,PSs (cxOf CX0 P w K mg base N qual (defScope st) f cdv A outer s H E).nox (defBody st) t/\t {nx:=λ_ H'=>Q .non H',rt:=Q} (start N vs) H):FnOk P w K mg base CX0 (k+1) f fd ps sp:=by
 obtain⟨oc,od,kV,doc,pm,an,cdv,ct,osl,rfl,lk,hcd⟩:=F.ex;refine jc lk hcd S len λA outer s H vs Q E hr hsp=>?_;obtain⟨t,h,q⟩:=hbody cdv A outer s H vs Q E hr hsp;exact⟨t,h.nox,q⟩
theorem FunD.binds {x qual:Str}{st:Stmt}{f T:Addr}{fd:FuncData}{ps:List Str}{ds:List Value}{oc:Value}{od:Option Addr}{items:Array Value}{n:Nat}{sl:Array (Option Value)}(F:FunD K x qual st f fd T)(hT:K.lookup T=some ⟨oc,od,.seq items n,sl⟩)
  (h:∀(kV doc pm:Value) (an:Option Addr) (cdv ct:Value) (us:List Value),(us++ds).length=ps.length->∃k:Option (Array Value)->Sem (List (Str×Value)),
   bindArgs (PySem.W.fnOf x qual (defArgs st) (defBody st) (defScope st) (.ref T) kV doc pm an cdv ct) ⟨us,[]⟩=seqItems? (.ref T) >>= k/\k (some items)=pure (ps.zip (us++ds))):Binds K fd ps ds:=by
 obtain⟨oc',od',kV,doc,pm,an,cdv,ct,osl,rfl,lk,hcd⟩:=F.ex;intro s us X hl;obtain⟨k,h1,h2⟩:=h kV doc pm an cdv ct us hl;exact BindsTo.of_defaults (T:=T) rfl (X T _ hT) rfl h1 h2
theorem dN {x qual:Str}{st:Stmt}{f T:Addr}{oc:Value}{od an:Option Addr}{osl:Array (Option Value)}{kV doc pm cdv ct:Value}(l:K.lookup f=some ⟨oc,od,.func (PySem.W.fnOf x qual (defArgs st) (defBody st) (defScope st) (.ref T) kV doc pm an cdv ct),osl⟩)
  (c:PySem.W.codeIn K cdv qual=true) (k:PySem.W.keepIn K (.ref f)=true):FunD K x qual st f (PySem.W.fnOf x qual (defArgs st) (defBody st) (defScope st) (.ref T) kV doc pm an cdv ct) T:=⟨⟨oc,od,kV,doc,pm,an,cdv,ct,osl,rfl,l,c⟩,k⟩
end
theorem wK {us:List Value}{d:Value}(h:(us++[d]).length=2):∃x,us=[x]:=by
 match us,h with
 |[x],_=>exact⟨x,rfl⟩
 |[],h=>simp at h
 |_::_::_,h=>simp at h
theorem cN {c:TT}{tb:TS}{D:Ends}{Z:St}{H:Hp}(W:Nat->St->Hp->Prop)(m0:Nat)(h0:W m0 Z H)
  (hs:∀m Z H,W m Z H->c Z H λb H1=>if b=true then ∃N:St->Hp->Prop,(∀Z' H',N Z' H'->∃m',m' < m/\W m' Z' H')/\tb {D with nx:=N,ct:=N,bk:=D.nx} Z H1 else D.nx Z H1):tWhile c tb D Z H:=⟨W,⟨m0,h0⟩,hs⟩
section
variable {Z:St}{H:Hp}{Q:VK}
theorem wL {r:V->Hp->VK->Prop}{ta:TE}:(tUn r ta Z H Q)=(ta Z H λx H1=>r x H1 Q):=rfl
theorem rd_U {g:Int->V}{i:Int}:rU g (.int i) H Q↔Q (g i) H:=⟨λ⟨_,h1,h2⟩=>by cases h1;exact h2,λh=>⟨i,rfl,h⟩⟩
theorem wM {l:Addr}{y:V}:rAppend (.ref l) [y] H Q↔∃xs,H l=some (.lst xs)/\xs.length < sizeLine/\Q .non (upd H l (.lst (xs++[y]))):=by
 constructor
 .rintro⟨l',xs,y',h1,h2,h3⟩;cases h1;cases h2;exact⟨xs,h3⟩
 .rintro⟨xs,h⟩;exact⟨l,xs,y,rfl,rfl,h⟩
theorem wN {K:W.Frag}{p:Addr}:tyV K "list" (.ref p) H↔∃xs,SqL K H p xs:=by
 constructor
 .rintro (⟨_,h⟩|⟨h,_⟩|⟨h,_⟩|⟨h,_⟩)
  .exact h
  .exact absurd h (by decide)
  .exact absurd h (by decide)
  .exact absurd h (by decide)
 .intro h;exact .inl ⟨rfl,h⟩
end
mutual
inductive Is (H:Hp):PyData->V->Prop
 |non:Is H .none .non
 |bl (b:Bool):Is H (.bool b) (.bl b)
 |int (i:Int):Is H (.int i) (.int i)
 |str (x:Str):Is H (.str x) (.str x)
 |lst {p:Addr}{xs:List V}{ds:List PyData}:H p=some (.lst xs)->IsAll H ds xs->Is H (.list ds) (.ref p)
 |tup {p:Addr}{xs:List V}{ds:List PyData}:H p=some (.tup xs)->IsAll H ds xs->Is H (.tuple ds) (.ref p)
 |dic {p:Addr}:H p=some (.dK [])->Is H (.dict []) (.ref p)
inductive IsAll (H:Hp):List PyData->List V->Prop
 |nil:IsAll H [] []
 |cons {d:PyData}{x:V}{ds:List PyData}{xs:List V}:Is H d x->IsAll H ds xs->IsAll H (d::ds) (x::xs)
end
mutual
theorem Is.mono {H H':Hp}(sm:Same H H'):∀{d:PyData}{x:V},Is H d x->Is H' d x
 |_,_,.non=>.non
 |_,_,.bl b=>.bl b
 |_,_,.int i=>.int i
 |_,_,.str x=>.str x
 |_,_,.lst h r=>.lst (sm _ _ h) (IsAll.mono sm r)
 |_,_,.tup h r=>.tup (sm _ _ h) (IsAll.mono sm r)
 |_,_,.dic h=>.dic (sm _ _ h)
theorem IsAll.mono {H H':Hp}(sm:Same H H'):∀{ds:List PyData}{xs:List V},IsAll H ds xs->IsAll H' ds xs
 |_,_,.nil=>.nil
 |_,_,.cons h r=>.cons (Is.mono sm h) (IsAll.mono sm r)
end
theorem IsAll.length {H:Hp}:∀{ds:List PyData}{xs:List V},IsAll H ds xs->ds.length=xs.length
 |_,_,.nil=>rfl
 |_,_,.cons _ r=>by rw[length_cons,length_cons,IsAll.length r]
theorem IsAll.append {H:Hp}:∀{ds es:List PyData}{xs ys:List V},IsAll H ds xs->IsAll H es ys->IsAll H (ds++es) (xs++ys)
 |_,_,_,_,.nil,r=>r
 |_,_,_,_,.cons h t,r=>.cons h (t.append r)
theorem IsAll.at {H:Hp}:∀{ds:List PyData}{xs:List V},IsAll H ds xs->∀(i:Nat) (x:V),xs[i]?=some x->∃d,ds[i]?=some d/\Is H d x
 |_,_,.nil,i,x,h=>by simp at h
 |_,_,.cons q r,0,x,h=>by simp at h;subst h;exact⟨_,rfl,q⟩
 |_,_,.cons q r,i+1,x,h=>by obtain⟨d,h1,h2⟩:=r.at i x (by simpa using h);exact⟨d,by simpa using h1,h2⟩
section
variable {X:Cx}{pins:List (Addr×Obj)}{Z:St}{H:Hp}{s:Shared}
mutual
theorem Is.reads (I:Inv X pins Z H s):∀{d:PyData}{x:V}{v:Value},Is H d x->RelV x v->∃as,Reads s.heap v d as
 |_,_,_,.non,r=>by cases r;exact⟨_,.none⟩
 |_,_,_,.bl b,r=>by cases r;exact⟨_,.bool b⟩
 |_,_,_,.int i,r=>by obtain⟨t,rfl⟩:=r;exact⟨_,.int i t⟩
 |_,_,_,.str x,r=>by obtain⟨t,rfl⟩:=r;exact⟨_,.str x t⟩
 |_,_,_,.lst h q,r=>by cases r;obtain⟨its,vs,⟨o,n,e,c,_,dt⟩,_⟩:=I.list (SqL.of h);obtain⟨as,ra⟩:=IsAll.reads I q vs;exact⟨_,.list e c dt (by simpa using ra)⟩
 |_,_,_,.tup h q,r=>by cases r;obtain⟨its,vs,⟨o,e,c,n,dt⟩,_⟩:=I.tuple (SqT.of h);obtain⟨as,ra⟩:=IsAll.reads I q vs;exact⟨_,.tuple e c dt (by simpa using ra)⟩
 |_,_,_,.dic h,r=>by
  cases r;obtain⟨_,_,vs,kv,o,es,ep,e,c,dt,_,hp,_⟩:=I.hok _ _ h;cases kv;have hes:es.toList=[]:=by generalize es.toList=l at hp;cases hp;rfl
  exact⟨_,.dict (kvs:=[]) e c.1 dt (by rw[hes];exact .nil) (by rw[hes];exact .nil)⟩
theorem IsAll.reads (I:Inv X pins Z H s):∀{ds:List PyData}{xs:List V}{vs:List Value},IsAll H ds xs->Vals xs vs->∃as,ReadsAll s.heap vs ds as
 |_,_,_,.nil,r=>by cases r;exact⟨_,.nil⟩
 |_,_,_,.cons q t,r=>by
  cases r with
  |cons r1 r2=>obtain⟨as,h1⟩:=Is.reads I q r1;obtain⟨bs,h2⟩:=IsAll.reads I t r2;exact⟨_,.cons h1 h2⟩
end
def rEqD:R2:=λx y H Q=>∃d e,Is H d x/\Is H e y/\SeqAt.shaped d=true/\SeqAt.shaped e=true/\Q (.bl (PyData.eqv d e)) H
def rNeD:R2:=λx y H Q=>∃d e,Is H d x/\Is H e y/\SeqAt.shaped d=true/\SeqAt.shaped e=true/\Q (.bl (!PyData.eqv d e)) H
theorem k7 (hu:X.A.units+64 < cLine):OpR X (compareOp .Eq) rEqD:=by intro pins s Z H x y v u Q I rx ry h;obtain⟨d,e,hx,hy,sx,sy,q⟩:=h;obtain⟨as,ra⟩:=hx.reads I rx;obtain⟨bs,rb⟩:=hy.reads I ry;exact eq_dataH ra rb sx sy hu ⟨.bl _,H,I,rfl,q⟩
theorem wO (hu:X.A.units+64 < cLine):OpR X (compareOp .NotEq) rNeD:=by intro pins s Z H x y v u Q I rx ry h;obtain⟨d,e,hx,hy,sx,sy,q⟩:=h;obtain⟨as,ra⟩:=hx.reads I rx;obtain⟨bs,rb⟩:=hy.reads I ry;exact ne_dataH ra rb sx sy hu ⟨.bl _,H,I,rfl,q⟩
end
mutual
inductive IsT (H:Hp):PyData->V->Prop
 |non:IsT H .none .non
 |bl (b:Bool):IsT H (.bool b) (.bl b)
 |int (i:Int):IsT H (.int i) (.int i)
 |str (x:Str):IsT H (.str x) (.str x)
 |tup {p:Addr}{xs:List V}{ds:List PyData}:H p=some (.tup xs)->IsTAll H ds xs->IsT H (.tuple ds) (.ref p)
inductive IsTAll (H:Hp):List PyData->List V->Prop
 |nil:IsTAll H [] []
 |cons {d:PyData}{x:V}{ds:List PyData}{xs:List V}:IsT H d x->IsTAll H ds xs->IsTAll H (d::ds) (x::xs)
end
def SameT (H H':Hp):Prop:=∀b xs,H b=some (.tup xs)->H' b=some (.tup xs)
theorem Same.toT {H H':Hp}(h:Same H H'):SameT H H':=λb xs e=>h b _ e
theorem bD {H:Hp}{p:Addr}{xs:List V}{o:HO}(h:H p=some (.lst xs)):SameT H (upd H p o):=λb ys e=>by rw[aE (fS e h (by intro z;cases z))];exact e
mutual
theorem IsT.mono {H H':Hp}(sm:SameT H H'):∀{d:PyData}{x:V},IsT H d x->IsT H' d x
 |_,_,.non=>.non
 |_,_,.bl b=>.bl b
 |_,_,.int i=>.int i
 |_,_,.str x=>.str x
 |_,_,.tup h r=>.tup (sm _ _ h) (IsTAll.mono sm r)
theorem IsTAll.mono {H H':Hp}(sm:SameT H H'):∀{ds:List PyData}{xs:List V},IsTAll H ds xs->IsTAll H' ds xs
 |_,_,.nil=>.nil
 |_,_,.cons h r=>.cons (IsT.mono sm h) (IsTAll.mono sm r)
end
mutual
theorem IsT.is {H:Hp}:∀{d:PyData}{x:V},IsT H d x->Is H d x
 |_,_,.non=>.non
 |_,_,.bl b=>.bl b
 |_,_,.int i=>.int i
 |_,_,.str x=>.str x
 |_,_,.tup h r=>.tup h (IsTAll.is r)
theorem IsTAll.is {H:Hp}:∀{ds:List PyData}{xs:List V},IsTAll H ds xs->IsAll H ds xs
 |_,_,.nil=>.nil
 |_,_,.cons h r=>.cons (IsT.is h) (IsTAll.is r)
end
theorem IsTAll.append {H:Hp}:∀{ds es:List PyData}{xs ys:List V},IsTAll H ds xs->IsTAll H es ys->IsTAll H (ds++es) (xs++ys)
 |_,_,_,_,.nil,r=>r
 |_,_,_,_,.cons h t,r=>.cons h (t.append r)
theorem IsTAll.length {H:Hp}{ds:List PyData}{xs:List V}(h:IsTAll H ds xs):ds.length=xs.length:=h.is.length
section
variable {p:Addr}{fv:St}{te:TE}{Q:VK}{H1:Hp}
inductive All2 (R:V->V->Hp->Prop)(H:Hp):List V->List V->Prop
 |nil:All2 R H [] []
 |cons {x y:V}{xs ys:List V}:R x y H->All2 R H xs ys->All2 R H (x::xs) (y::ys)
end
section
variable {X:Cx}
def rAllB (K:W.Frag):List V->Hp->VK->Prop:=λvs H Q=>∃(p:Addr) (bs:List Bool),vs=[.ref p]/\SqL K H p (bs.map V.bl)/\Q (.bl (bs.all id)) H
theorem wP {bs:List Bool}:∀{us:List Value},Vals (bs.map V.bl) us->∀(i:Nat) (v:Value),us[i]?=some v->∃b,bs[i]?=some b/\v=.bool b:=by
 induction bs with
 |nil=>intro us r i v h;rw[map_nil] at r;cases r;simp at h
 |cons b bs ih=>
  intro us r i v h;rw[map_cons] at r;cases r with
  |cons r1 r2=>
   cases i with
   |zero=>simp at h;subst h;exact⟨b,rfl,r1⟩
   |succ i=>obtain⟨c,h1,h2⟩:=ih r2 i v (by simpa using h);exact⟨c,by simpa using h1,h2⟩
theorem wQ (hc:X.calm=true):CallR X (.builtin "all") (rAllB X.K):=by
 intro ld s Z H xs us Q I r h;obtain⟨p,bs,rfl,hq,q⟩:=h;obtain⟨u,rfl,ru⟩:=vals1 r;cases ru;obtain⟨dl,vs,pl,hl⟩:=I.list hq;have hI:=pl.isList;have mt:p < s.heap.objs.size:=by obtain⟨_,e,_⟩:=hI;exact Heap.lt_size e
 refine call_all_walk (wpAny_pyIter_list hI ?_);refine⟨s.heap.objs.size,[s.heap.objs.size,p],[s.heap.objs.size],dl.toArray.size,_,_,λi=>(bs[i]?).getD true,rfl,Walks.list (A:=X.A.in1) (I.ok.hd hc) _ p (Nat.ne_of_lt mt) dl.toArray,
  ⟨⟨_,Heap.get?_push_size _ rfl,rfl,rfl⟩,hI.push _⟩,λi v s' Q' E' hP hQ=>?_,λh' tk hk=>?_⟩
 .obtain⟨b,e,rfl⟩:=wP vs i v (by simpa using hP);simp only[e,Option.getD_some] at hQ;exact wpAny_truthy_bool hQ
 .have BT:=vs.length;rw[length_map] at BT;have e:((List.range dl.toArray.size).all λi=>(bs[i]?).getD true)=bs.all id:=by rw[size_toArray,<- BT];exact PyProof.Rows.LSm.range_all bs
  exact⟨.bl _,H,I.kept (t':=tk) (PyProof.Rows.LSm.kept_iter hk),rfl,by rw[e];exact q⟩
variable {K:W.Frag}
theorem bn (h:X.K=K)(hc:X.calm=true):CallR X (.builtin "all") (rAllB K):=by subst h;exact wQ hc
theorem bE {tg l:Expr}{tl:TE}(h:X.K=K)(hl:PE X l tl):PI X tg l (iTup K tl):=by subst h;exact sr hl
end
section
variable {H:Hp}{Q:VK}{K:W.Frag}
theorem wR {x:V}{T:String}:(rIsiU [x,.ty T] H Q)=(∃k,kindV x H=some k/\T∈["bool","int","str","list","tuple"]/\Q (.bl (subT k T)) H):=rfl
theorem wS:kindV .non H=some "NoneType" := rfl
theorem k8 {b:Bool}:kindV (.bl b) H=some "bool" := rfl
theorem wU {i:Int}:kindV (.int i) H=some "int" := rfl
theorem k9 {x:Str}:kindV (.str x) H=some "str" := rfl
theorem dO {p:Addr}{xs:List V}(h:H p=some (.lst xs)):kindV (.ref p) H=some "list" := by simp only[kindV,h]
theorem cO {p:Addr}{xs:List V}(h:H p=some (.tup xs)):kindV (.ref p) H=some "tuple" := by simp only[kindV,h]
theorem wV {p:Addr}{kvs:List (Key×V)}(h:H p=some (.dK kvs)):kindV (.ref p) H=some "dict" := by simp only[kindV,h]
theorem wW:("bool" ∈ ["bool","int","str","list","tuple"])=True:=by simp
theorem wX:("int" ∈ ["bool","int","str","list","tuple"])=True:=by simp
theorem wY:("str" ∈ ["bool","int","str","list","tuple"])=True:=by simp
theorem wZ:("list" ∈ ["bool","int","str","list","tuple"])=True:=by simp
theorem wa:("tuple" ∈ ["bool","int","str","list","tuple"])=True:=by simp
theorem wc:subT "NoneType" "bool"=false:=by decide
theorem wd:subT "NoneType" "int"=false:=by decide
theorem we:subT "NoneType" "str"=false:=by decide
theorem wg:subT "NoneType" "tuple"=false:=by decide
theorem wm:subT "bool" "bool"=true:=by decide
theorem wn:subT "bool" "int"=true:=by decide
theorem wo:subT "bool" "str"=false:=by decide
theorem wp:subT "bool" "tuple"=false:=by decide
theorem wq:subT "int" "bool"=false:=by decide
theorem wt:subT "int" "int"=true:=by decide
theorem wv:subT "int" "str"=false:=by decide
theorem ww:subT "int" "tuple"=false:=by decide
theorem wy:subT "str" "bool"=false:=by decide
theorem x6:subT "str" "int"=false:=by decide
theorem x8:subT "str" "str"=true:=by decide
theorem x9:subT "str" "tuple"=false:=by decide
theorem xA:subT "list" "bool"=false:=by decide
theorem xB:subT "list" "int"=false:=by decide
theorem xC:subT "list" "str"=false:=by decide
theorem xD:subT "list" "tuple"=false:=by decide
theorem xE:subT "tuple" "bool"=false:=by decide
theorem xF:subT "tuple" "int"=false:=by decide
theorem xG:subT "tuple" "str"=false:=by decide
theorem sub_tuple_tuple:subT "tuple" "tuple"=true:=by decide
theorem xH {n:Nat}{t:TGs}{v:V}{Z:St}{R:St->Hp->Prop}:(gTup K n t v Z H R)=(∃a xs,v=.ref a/\SqT K H a xs/\xs.length=n/\t xs Z H R):=rfl
theorem xI {t:TG}{u:TGs}{vs:List V}{Z:St}{R:St->Hp->Prop}:(gCons t u vs Z H R)=(∃v r,vs=v::r/\t v Z H λZ' H'=>u r Z' H' R):=rfl
theorem xJ {vs:List V}{Z:St}{R:St->Hp->Prop}:(gNil vs Z H R)=(vs=[]/\R Z H):=rfl
theorem xK {to ti:TE}{t:TSet}{v:V}{Z:St}{R:St->Hp->Prop}:(gSub to ti t v Z H R)=(to Z H λo H1=>ti Z H1 λi H2=>t o i v H2 λH3=>R Z H3):=rfl
theorem xL {p:Addr}{k:Int}{v:V}{R:Hp->Prop}:rSetL (.ref p) (.int k) v H R↔∃xs j,H p=some (.lst xs)/\ixN xs.length k=some j/\R (upd H p (.lst (xs.set j v))):=by
 constructor
 .rintro⟨p',xs,k',j,h1,h2,h3⟩;cases h1;cases h2;exact⟨xs,j,h3⟩
 .rintro⟨xs,j,h⟩;exact⟨p,xs,k,j,rfl,rfl,h⟩
end
section
variable {X:Cx}{K:W.Frag}
theorem bo {es:List Expr}{k:Nat}{t:TGs}{n:Nat}{pos:Pos}(h:X.K=K)(hc:X.calm=true)(hg:PGs X es t)
  (hn:(assignEach es X.env).length=n:=by rfl) (hst:(assignEach es X.env).findIdx? (·.1)=none:=by rfl):PG X (.Tuple es k pos) (gTup K n t):=by
 subst h;exact jJ hc hg hn hst
end
def SameBut (p:Addr)(H H':Hp):Prop:=∀b o,b≠p->H b=some o->H' b=some o
theorem SameBut.refl (p:Addr)(H:Hp):SameBut p H H:=λ_ _ _ e=>e
theorem SameBut.trans {p:Addr}{H H' H'':Hp}(h:SameBut p H H')(h':SameBut p H' H''):SameBut p H H'':=λb o n e=>h' b o n (h b o n e)
theorem Same.but {p:Addr}{H H':Hp}(h:Same H H'):SameBut p H H':=λb o _ e=>h b o e
theorem dP {p:Addr}{H:Hp}{o:HO}:SameBut p H (upd H p o):=λb u n e=>by rw[aE n];exact e
theorem SameBut.same {p:Addr}{H H':Hp}(h:SameBut p H H')(hp:H p=none):Same H H':=λb o e=>h b o (aJ e hp) e
section
variable {p:Addr}{fv:St}{te:TE}{Q:VK}{H1:Hp}{K:W.Frag}
theorem Same.tup {H H':Hp}{a:Addr}{xs:List V}(e:Same H H')(h:SqT K H a xs):SqT K H' a xs:=by
 rcases h with (h|⟨o,h⟩)|h
 .exact .inl (.inl (e _ _ h))
 .exact .inl (.inr ⟨o,e _ _ h⟩)
 .exact .inr h
theorem xM {a:Addr}{xs zs:List V}(hxs:SqT K H1 a xs)(hlen:xs.length<=sizeLine)(hp:H1 p=none)(hz:zs.length=xs.length)
  (he:∀(i:Nat) (x z:V),xs[i]?=some x->zs[i]?=some z->∀(H':Hp) (T:VK),Same H1 H'->(∀H'',Same H' H''->T z H'')->te (some x::fv) H' T)
  (hQ:∀H',Same H1 H'->H' p=some (.lst zs)->Q (.ref p) H'):CompI (Itt K a) p fv tYes te Q H1:=by
 refine⟨λi m ys H2=>m=xs.length - i/\i<=xs.length/\ys=zs.take i/\H2 p=some (.lst ys)/\Same H1 H2,⟨xs.length,by simp,Nat.zero_le _,by simp,aC,λb o e=>by rw[aE (aJ e hp)];exact e⟩,?_⟩;rintro i m ys H2 ⟨rfl,hi,rfl,dl,sm⟩;refine⟨dl,?_⟩;have q:=sm.tup hxs;by_cases mt:i < xs.length
 .refine .inr ⟨⟨xs,xs[i],q,by simp[mt]⟩,?_,λx H3 y=>?_⟩
  .rw[length_take];lia
  .obtain⟨rfl,y⟩:=y;have hc:=y xs q;have ld:zs[i]?=some zs[i]:=List.getElem?_eq_getElem (by lia);unfold tYes;dsimp only;rw[if_pos rfl];refine he i x _ hc ld _ _ sm λH5 s5=>⟨s5 _ _ dl,xs.length - (i+1),by lia,rfl,mt,?_,aC,λb o e=>?_⟩
   .rw[take_add_one,ld];rfl
   .rw[aE (aJ e hp)];exact s5 _ _ (sm _ _ e)
 .have e:i=xs.length:=by lia
  subst e;refine .inl ⟨⟨xs,q,Nat.le_refl _⟩,hQ H2 sm ?_⟩;rw[dl,<- hz,take_length]
theorem xN {a:Addr}{xs zs:List V}(hxs:SqL K H1 a xs)(hlen:xs.length<=sizeLine)(hp:H1 p=none)(hz:zs.length=xs.length)
  (he:∀(i:Nat) (x z:V),xs[i]?=some x->zs[i]?=some z->∀(H':Hp) (T:VK),Same H1 H'->(∀H'',Same H' H''->T z H'')->te (some x::fv) H' T)
  (hQ:∀H',Same H1 H'->H' p=some (.lst zs)->Q (.ref p) H'):CompI (Itl K a) p fv tYes te Q H1:=by
 refine⟨λi m ys H2=>m=xs.length - i/\i<=xs.length/\ys=zs.take i/\H2 p=some (.lst ys)/\Same H1 H2,⟨xs.length,by simp,Nat.zero_le _,by simp,aC,λb o e=>by rw[aE (aJ e hp)];exact e⟩,?_⟩;rintro i m ys H2 ⟨rfl,hi,rfl,dl,sm⟩;refine⟨dl,?_⟩;have q:=sm.seq hxs;by_cases mt:i < xs.length
 .refine .inr ⟨⟨xs,xs[i],q,by simp[mt]⟩,?_,λx H3 y=>?_⟩
  .rw[length_take];lia
  .obtain⟨rfl,y⟩:=y;have hc:=y xs q;have ld:zs[i]?=some zs[i]:=List.getElem?_eq_getElem (by lia);unfold tYes;dsimp only;rw[if_pos rfl];refine he i x _ hc ld _ _ sm λH5 s5=>⟨s5 _ _ dl,xs.length - (i+1),by lia,rfl,mt,?_,aC,λb o e=>?_⟩
   .rw[take_add_one,ld];rfl
   .rw[aE (aJ e hp)];exact s5 _ _ (sm _ _ e)
 .have e:i=xs.length:=by lia
  subst e;refine .inl ⟨⟨xs,q,Nat.le_refl _⟩,hQ H2 sm ?_⟩;rw[dl,<- hz,take_length]
variable {Z:St}{H:Hp}{tl:TE}{tt:TT}{fr:Tq}{g:TG}{tb:TS}{D:Ends}
theorem xO:(tComp (iTup K tl) fr tt te Z H Q)=(tl Z H λx H1=>∃a,x=.ref a/\(∃xs,SqT K H1 a xs)/\∀p,H1 p=none->CompI (Itt K a) p (frV Z fr) tt te Q H1):=rfl
theorem xP:(tFor (iTup K te) g tb D Z H)=(te Z H λx H1=>∃a,x=.ref a/\(∃xs,SqT K H1 a xs)/\LoopI (Itt K a) g tb D Z H1):=rfl
theorem kA {a:Addr}{xs:List V}(Pv:Nat->St->Hp->Prop)(h0:Pv 0 Z H)(hl:∀i Z H,i<=xs.length->Pv i Z H->SqT K H a xs)
  (hs:∀i x Z H,xs[i]?=some x->Pv i Z H->g x Z H λZ2 H2=>tb {D with nx:=Pv (i+1),ct:=Pv (i+1),bk:=D.nx} Z2 H2) (hd:∀Z H,Pv xs.length Z H->D.nx Z H):LoopI (Itt K a) g tb D Z H:=t5 Pv h0 hl hs hd
theorem fj {a:Addr}:rAllB K [.ref a] H Q↔∃bs:List Bool,SqL K H a (bs.map V.bl)/\Q (.bl (bs.all id)) H:=by
 constructor
 .rintro⟨p,bs,h1,h2⟩;cases h1;exact⟨bs,h2⟩
 .rintro⟨bs,h⟩;exact⟨a,bs,rfl,h⟩
end
def tCut (t u:TS):TS:=λD Z H=>∃P:St->Hp->Prop,t {D with nx:=P} Z H/\∀Z' H',P Z' H'->u D Z' H'
section
variable {X:Cx}{st:Stmt}{rest:List Stmt}{t u:TS}
theorem aP (h1:PS X st t)(h2:PSs X rest u):PSs X (st::rest) (tCut t u):=by
 intro pins s Z H D I h;obtain⟨P,h,hu⟩:=h;refine wpAny_execs_cons (thn (h1 pins s Z H {D with nx:=P} I h) λf s1 q=>?_);cases f with
 |next=>obtain⟨Z',H',I',q⟩:=q;exact h2 pins s1 Z' H' D I' (hu _ _ q)
 |ret v=>exact q
 |brk=>exact q
 |cont=>exact q
def Later (u:TS)(D:Ends)(Z:St)(H:Hp):Prop:=u D Z H
theorem xQ {D:Ends}{x:Option V}{Z:St}{H:Hp}:(Later u D (x::Z) H)=(u D (x::Z) H):=rfl
theorem xR {D:Ends}{Z:St}{H:Hp}:(tCut t u D Z H)=(∃P:St->Hp->Prop,t {D with nx:=P} Z H/\∀Z' H',P Z' H'->Later u D Z' H'):=rfl
end
theorem SameBut.free {p q:Addr}{H H':Hp}(sb:SameBut p H H')(hq:H' q=none)(hne:q≠p):H q=none:=by
 cases e:H q with
 |none=>rfl
 |some o=>rw[sb q o hne e] at hq;cases hq
theorem SameBut.upd {p q:Addr}{H H':Hp}{o:HO}(sb:SameBut p H H')(hq:H q=none):SameBut p H (upd H' q o):=λb u n e=>by rw[aE (aJ e hq)];exact sb b u n e
theorem IsTAll.snoc {H:Hp}{ds:List PyData}{xs:List V}{d:PyData}{x:V}(h:IsTAll H ds xs)(hd:IsT H d x):IsTAll H (ds++[d]) (xs++[x]):=h.append (.cons hd .nil)
theorem aN {H:Hp}{p:Addr}{o:HO}(hp:H p=none):Same H (upd H p o):=λb u e=>by rw[aE (aJ e hp)];exact e
def tTupS (t:TA):TE:=λZ H Q=>t Z H λxs H1=>xs.length<=sizeLine/\∀p H',H1 p=none->Same H1 H'->H' p=some (.tup xs)->Q (.ref p) H'
def tLstS (t:TA):TE:=λZ H Q=>t Z H λxs H1=>xs.length<=sizeLine/\∀p H',H1 p=none->Same H1 H'->H' p=some (.lst xs)->Q (.ref p) H'
section
variable {X:Cx}{es:List Expr}{t:TA}{pos:Pos}{K:W.Frag}
theorem cP {x1}(h:PA X es t):PE X (.Tuple es x1 pos) (tTupS t):=by intro dl s Z H Q I hq;refine wpAny_Tuple_spliced (thn (h pos dl s Z H _ I hq) λus s1 ⟨xs,H1,I1,r,z,q⟩=>⟨by rw[<- r.length];exact z,?_⟩);have hf:H1 s1.heap.objs.size=none:=I1.hok.fresh (Nat.le_refl _);refine⟨.ref s1.heap.objs.size,upd H1 s1.heap.objs.size (.tup xs),I1.laid (t':=s1.toks) (λb u e=>Heap.get?_push_of_some _ e) (Nat.le_refl _) ?_,rfl,q _ _ hf (aN hf) aC⟩;exact⟨z,us,r,⟨_,Heap.get?_push_size _ rfl,rfl,_,rfl⟩⟩
theorem fk (h:PA X es t):PE X (.List es pos) (tLstS t):=by intro dl s Z H Q I hq;refine wpAny_List_spliced (thn (h pos dl s Z H _ I hq) λus s1 ⟨xs,H1,I1,r,z,q⟩=>⟨by rw[<- r.length];exact z,?_⟩);have hf:H1 s1.heap.objs.size=none:=I1.hok.fresh (Nat.le_refl _);refine⟨.ref s1.heap.objs.size,upd H1 s1.heap.objs.size (.lst xs),I1.laid (t':=s1.toks) (λb u e=>Heap.get?_push_of_some _ e) (Nat.le_refl _) ?_,rfl,q _ _ hf (aN hf) aC⟩;exact⟨z,us,0,r,Heap.get?_push_size _ rfl⟩
def rAddS (K:W.Frag):R2:=λx y H Q=>match x,y with
 |.int i,.int j=>Q (.int (i+j)) H
 |.str i,.str j=>i.length+j.length<=sizeLine/\Q (.str (i++j)) H
 |.ref a,.ref b=>(∃xs zs,H a=some (.lst xs)/\H b=some (.lst zs)/\xs.length+zs.length<=sizeLine/\∀p H',H p=none->Same H H'->H' p=some (.lst (xs++zs))->Q (.ref p) H')\/
   (∃xs ys,H a=some (.tup xs)/\H b=some (.tup ys)/\xs.length+ys.length<=sizeLine/\∀p H',Same H H'->H' p=some (.tup (xs++ys))->Q (.ref p) H')
 |_,_=>False
theorem bW:OpR X (binaryOp .Add) (rAddS K):=by
 intro dl s Z H x y v u Q I rx ry h;refine jt dl s Z H x y v u Q I rx ry ?_;cases x with
 |int i=>
  cases y with
  |int j=>exact h
  |_=>exact h.elim
 |str i=>
  cases y with
  |str j=>exact h
  |_=>exact h.elim
 |ref a=>
  cases y with
  |ref b=>
   rcases h with⟨xs,zs,h1,h2,h3,h4⟩|h
   .exact .inl ⟨xs,zs,h1,h2,h3,λp hp=>h4 p _ hp (aN hp) aC⟩
   .exact .inr h
  |_=>exact h.elim
 |_=>exact h.elim
def rListS (K:W.Frag):List V->Hp->VK->Prop:=λxs H Q=>∃p ys,xs=[.ref p]/\(SqL K H p ys\/SqT K H p ys)/\∀l H',H l=none->Same H H'->H' l=some (.lst ys)->Q (.ref l) H'
def rTupleS (K:W.Frag):List V->Hp->VK->Prop:=λxs H Q=>∃p ys,xs=[.ref p]/\(SqL K H p ys\/H p=some (.tup ys))/\∀l H',Same H H'->H' l=some (.tup ys)->Q (.ref l) H'
theorem xS (h:X.K=K):CallR X (.type "list") (rListS K):=by subst h;intro pins s Z H xs us Q I r h;obtain⟨p,ys,h1,h2,h3⟩:=h;exact uY pins s Z H xs us Q I r ⟨p,ys,h1,h2,λl hl=>h3 l _ hl (aN hl) aC⟩
theorem kB (h:X.K=K):CallR X (.type "tuple") (rTupleS K):=by
 subst h;intro pins s Z H xs us Q I r h;obtain⟨p,ys,h1,h2,h3⟩:=h;rcases h2 with h2|h2
 .exact jn pins s Z H xs us Q I r ⟨p,ys,h1,.inl ⟨h2,λl hl=>h3 l _ (aN hl) aC⟩⟩
 .exact jn pins s Z H xs us Q I r ⟨p,ys,h1,.inr ⟨SqT.of h2,h3 p H (Same.refl _) h2⟩⟩
end
section
variable {Z:St}{H:Hp}{Q:VK}{K:W.Frag}{aa:TA}
theorem xT:(tTupS aa Z H Q)=(aa Z H λxs H1=>xs.length<=sizeLine/\∀p H',H1 p=none->Same H1 H'->H' p=some (.tup xs)->Q (.ref p) H'):=rfl
theorem xU:(tLstS aa Z H Q)=(aa Z H λxs H1=>xs.length<=sizeLine/\∀p H',H1 p=none->Same H1 H'->H' p=some (.lst xs)->Q (.ref p) H'):=rfl
theorem xV {i j:Int}:(rAddS K (.int i) (.int j) H Q)=(Q (.int (i+j)) H):=rfl
theorem ae {i j:Str}:(rAddS K (.str i) (.str j) H Q)=(i.length+j.length<=sizeLine/\Q (.str (i++j)) H):=rfl
theorem xW {a:Addr}:rListS K [.ref a] H Q↔∃ys,(SqL K H a ys\/SqT K H a ys)/\∀l H',H l=none->Same H H'->H' l=some (.lst ys)->Q (.ref l) H':=by
 constructor
 .rintro⟨p,bs,h1,h2⟩;cases h1;exact⟨bs,h2⟩
 .rintro⟨bs,h⟩;exact⟨a,bs,rfl,h⟩
theorem xX {a:Addr}:rTupleS K [.ref a] H Q↔∃ys,(SqL K H a ys\/H a=some (.tup ys))/\∀l H',Same H H'->H' l=some (.tup ys)->Q (.ref l) H':=by
 constructor
 .rintro⟨p,bs,h1,h2⟩;cases h1;exact⟨bs,h2⟩
 .rintro⟨bs,h⟩;exact⟨a,bs,rfl,h⟩
end
def rSlLS (K:W.Frag):V->Option Int->Option Int->Hp->VK->Prop:=λx lo hi H Q=>∃a xs,x=.ref a/\SqL K H a xs/\∀p H',H p=none->Same H H'->H' p=some (.lst (cutV xs lo hi))->Q (.ref p) H'
theorem xY {X:Cx}{K:W.Frag}(h:X.K=K):SlR X (rSlLS K):=by subst h;intro pins s Z H x v vl vu lo hi sl Q I rx hs pl pu h;obtain⟨a,xs,h1,h2,h3⟩:=h;exact jl pins s Z H x v vl vu lo hi sl Q I rx hs pl pu ⟨a,xs,h1,h2,λp hp=>h3 p _ hp (aN hp) aC⟩
theorem xZ {K:W.Frag}{H:Hp}{Q:VK}{a:Addr}{lo hi:Option Int}:rSlLS K (.ref a) lo hi H Q↔∃xs,SqL K H a xs/\∀p H',H p=none->Same H H'->H' p=some (.lst (cutV xs lo hi))->Q (.ref p) H':=by
 constructor
 .rintro⟨p,bs,h1,h2⟩;cases h1;exact⟨bs,h2⟩
 .rintro⟨bs,h⟩;exact⟨a,bs,rfl,h⟩
end L2
namespace Wm
open PySem L2
noncomputable def isSg (c:Nat):Bool:=decide (32<=c) && decide (c<=126) && !decide (c=37)
noncomputable def SG:Tq:=(List.range 127).filter isSg
noncomputable def hexd (n:Nat):Nat:=if n < 10 then 48+n else 87+n
noncomputable def fig (a:Nat):Option Nat:=if 48<=a/\a<=57 then some (a - 48) else if 97<=a/\a<=102 then some (a - 87) else if 65<=a/\a<=70 then some (a - 55) else none
noncomputable def figV (a:Nat):V:=match fig a with|some n=>.int (n:Nat)|none=>.non
noncomputable abbrev one (c:Nat):V:=.str ⟨#[c]⟩
noncomputable def sgV (n:Nat):V:=if isSg n then one n else .non
noncomputable def signOf (a b:Nat):V:=match fig a,fig b with|some h,some l=>sgV (h * 16+l)|_,_=>.non
noncomputable def signOfL:Tq->V
 |[a,b]=>signOf a b
 |_=>.non
theorem kC {c:Nat}:c∈SG↔isSg c=true:=by
 unfold SG;rw[mem_filter,mem_range];constructor
 .exact λh=>h.2
 .intro h;refine⟨?_,h⟩;simp only[isSg,Bool.and_eq_true,decide_eq_true_eq] at h;lia
theorem ah {c:Nat}(h:isSg c=true):32<=c/\c<=126/\c≠37:=by simp only[isSg,Bool.and_eq_true,decide_eq_true_eq,Bool.not_eq_true',decide_eq_false_iff_not] at h;lia
theorem xa:∀n,n < 16->(ofString "0123456789abcdef").cps.toList[n]?=some (hexd n):=by fail "k"
theorem kD {i:Int}{n:Nat}(e:i=(n:Int))(h:n < 16):atI (ofString "0123456789abcdef").cps.toList i=some (hexd n):=by rw[e];exact a0 (xa n h)
theorem kE:(ofString "0123456789abcdef").length<=sizeLine:=by fail "k"
theorem xb:∀a,a < 128->a∈(ofString "0123456789abcdef").cps.toList ->
  Builtin.Str.occurrences (ofString "0123456789abcdef") ⟨#[a]⟩ 0 (ofString "0123456789abcdef").length 1=[(fig a).getD 0]/\(fig a).isSome=true:=by fail "k"
theorem xc:∀a,a < 128->¬ a∈(ofString "0123456789abcdef").cps.toList->a∈(ofString "0123456789ABCDEF").cps.toList ->
  Builtin.Str.occurrences (ofString "0123456789ABCDEF") ⟨#[a]⟩ 0 (ofString "0123456789ABCDEF").length 1=[(fig a).getD 0]/\(fig a).isSome=true:=by fail "k"
theorem xf:∀a,a < 128->¬ a∈(ofString "0123456789abcdef").cps.toList->¬ a∈(ofString "0123456789ABCDEF").cps.toList->fig a=none:=by fail "k"
theorem xg:∀n,n < 127->isSg n=true->(ofString " !\"#$&'()*+,-./0123456789:;<=>?@ABCDEFGHIJKLMNOPQRSTUVWXYZ[\\]^_`abcdefghijklmnopqrstuvwxyz{|}~").cps.toList[n - 32 - (if 37 < n then 1 else 0)]?=some n:=by fail "k"
theorem kF:(ofString " !\"#$&'()*+,-./0123456789:;<=>?@ABCDEFGHIJKLMNOPQRSTUVWXYZ[\\]^_`abcdefghijklmnopqrstuvwxyz{|}~").length<=sizeLine:=by fail "k"
theorem kG:SG.length=94:=by fail "k"
theorem kH (l:Tq)(a:Nat):∀k,((List.range k).map λj=>a+j).filterMap (λi=>l[i]?)=(l.drop a).take k
 |0=>by simp
 |k+1=>by
  rw[range_succ,map_append,List.filterMap_append,kH l a k,take_add_one,List.getElem?_drop];simp only[map_cons,map_nil];cases e:l[a+k]? with
  |none=>simp[e]
  |some c=>simp[e]
noncomputable def clipI (n:Nat)(v:Int):Nat:=(max 0 (min (if v < 0 then v+n else v) n)).toNat
theorem xh (a b:Nat):sliceRange (a:Int) (b:Int) 1=(List.range (b - a)).map λj=>a+j:=by
 unfold sliceRange;have h1:(1:Int) > 0:=by decide
 simp only[h1,if_true,Int.one_mul,Int.ediv_one];have e:(if (a:Int) < (b:Int) then (b:Int) - (a:Int)+1 - 1 else 0).toNat=b - a:=by split <;> lia
 rw[e];apply map_congr_left;intro j _;lia
theorem xi (lo hi:Option Int)(n:Nat):Builtin.Str.strSliceIndices lo hi 1 n=(List.range ((hi.elim n (clipI n)) - (lo.elim 0 (clipI n)))).map λj=>(lo.elim 0 (clipI n))+j:=by
 unfold Builtin.Str.strSliceIndices;have h1:(1:Int) > 0:=by decide
 simp only[h1,if_true];rw[<- xh]
 congr 1
 .cases lo with
  |none=>rfl
  |some v=>simp only[Option.elim_some,clipI];lia
 .cases hi with
  |none=>rfl
  |some v=>simp only[Option.elim_some,clipI];lia
theorem fm (l:Tq)(lo hi:Option Int):Txt.slice (⟨l.toArray⟩:Str) lo hi=⟨((l.drop (lo.elim 0 (clipI l.length))).take ((hi.elim l.length (clipI l.length)) - (lo.elim 0 (clipI l.length)))).toArray⟩:=by
 have hl:(⟨l.toArray⟩:Str).length=l.length:=by simp[Str.length]
 have hb:hi.elim l.length (clipI l.length)<=l.length:=by
  cases hi with
  |none=>exact Nat.le_refl _
  |some v=>simp only[Option.elim_some,clipI];lia
 have dl:lo.elim 0 (clipI l.length)<=l.length:=by
  cases lo with
  |none=>exact Nat.zero_le _
  |some v=>simp only[Option.elim_some,clipI];lia
 have ef:(λi:Nat=>(⟨l.toArray⟩:Str).cps[i]?)=λi=>l[i]?:=by funext i;simp
 unfold Txt.slice;rw[hl,xi,ef];split
 .rename_i h;simp only[length_map,length_range,beq_self_eq_true,Bool.true_and,beq_iff_eq] at h;have e1:lo.elim 0 (clipI l.length)=0:=by lia
  have e2:hi.elim l.length (clipI l.length)=l.length:=by lia
  rw[e1,e2];simp
 .rw[kH l (lo.elim 0 (clipI l.length)) ((hi.elim l.length (clipI l.length)) - (lo.elim 0 (clipI l.length)))]
theorem ft (n k:Nat):clipI n (k:Int)=min k n:=by unfold clipI;split <;> lia
theorem xj (l:Tq)(k:Nat):Txt.slice (⟨l.toArray⟩:Str) (some (k:Int)) none=⟨(l.drop k).toArray⟩:=by
 rw[fm];simp only[Option.elim_some,Option.elim_none,ft];by_cases h:k<=l.length
 .rw[Nat.min_eq_left h,take_of_length_le (by simp)]
 .rw[Nat.min_eq_right (by lia),drop_eq_nil_of_le (Nat.le_refl _),drop_eq_nil_of_le (by lia)];simp
theorem xl (l:Tq)(k:Nat):Txt.slice (⟨l.toArray⟩:Str) none (some (k:Int))=⟨(l.take k).toArray⟩:=by
 rw[fm];simp only[Option.elim_some,Option.elim_none,ft,drop_zero,Nat.sub_zero];by_cases h:k<=l.length
 .rw[Nat.min_eq_left h]
 .rw[Nat.min_eq_right (by lia),take_length,take_of_length_le (by lia)]
theorem dQ (l:Tq)(i j:Nat):Txt.slice (⟨l.toArray⟩:Str) (some (i:Int)) (some (j:Int))=⟨((l.drop i).take (j - i)).toArray⟩:=by
 rw[fm];simp only[Option.elim_some,ft];by_cases h:i<=l.length
 .rw[Nat.min_eq_left h];by_cases h2:j<=l.length
  .rw[Nat.min_eq_left h2]
  .rw[Nat.min_eq_right (by lia:l.length<=j),take_of_length_le (by simp),take_of_length_le (by simp;lia)]
 .rw[Nat.min_eq_right (by lia:l.length<=i),drop_eq_nil_of_le (Nat.le_refl _),drop_eq_nil_of_le (by lia)];simp
theorem xn:ofString ""=⟨([]:Tq).toArray⟩:=by fail "k"
theorem fu (ys:List Str):Txt.join (⟨([]:Tq).toArray⟩:Str) ys=⟨(ys.flatMap λy=>y.cps.toList).toArray⟩:=by
 show Builtin.Str.glued _ _=_;rw[StrLaws.glued_eq_join];induction ys with
 |nil=>rfl
 |cons y r ih=>
  cases r with
  |nil=>show y=_;simp
  |cons z r=>show y++(⟨#[]⟩:Str)++Str.join ⟨#[]⟩ (z::r)=_;rw[ih];show Str.mk (y.cps++#[]++_)=_;simp[flatMap_cons]
theorem aU (l m:Tq):((⟨l.toArray⟩:Str)++(⟨m.toArray⟩:Str))=⟨(l++m).toArray⟩:=by show Str.mk (l.toArray++m.toArray)=_;simp
theorem aR {l m:Tq}:((⟨l.toArray⟩:Str)=⟨m.toArray⟩)↔l=m:=by
 constructor
 .intro h;injection h with h;injection h
 .rintro rfl;rfl
theorem aG (l:Tq):(⟨l.toArray⟩:Str).length=l.length:=by simp[Str.length]
theorem xo:ofString "~"=⟨[126].toArray⟩:=by fail "k"
theorem xp (l:Tq):Txt.slice (⟨l.toArray⟩:Str) (some 1) none=⟨(l.drop 1).toArray⟩:=xj l 1
theorem cQ {a n:Nat}(h:fig a=some n):figV a=.int (n:Nat):=by unfold figV;rw[h]
theorem fw {a:Nat}(h:fig a=none):figV a=.non:=by unfold figV;rw[h]
theorem xq {n:Nat}(h:isSg n=true):sgV n=one n:=by unfold sgV;rw[if_pos h]
theorem fz {n:Nat}(h:¬ isSg n=true):sgV n=.non:=by unfold sgV;rw[if_neg h]
theorem xr {n:Nat}(h1:32<=n)(h2:n<=126)(h3:n≠37):isSg n=true:=by simp only[isSg,Bool.and_eq_true,decide_eq_true_eq,Bool.not_eq_true',decide_eq_false_iff_not];lia
theorem kI {l:Tq}(h:l.length≠2):signOfL l=.non:=by
 match l with
 |[]=>rfl
 |[_]=>rfl
 |[_,_]=>exact absurd rfl h
 |_::_::_::_=>rfl
theorem xt {l:Tq}(h:l.length=2):∃a b,l=[a,b]:=by
 match l,h with
 |[a,b],_=>exact⟨a,b,rfl⟩
theorem dR (l:Tq)(m k:Int)(h0:0 < k)(h:k<=l.length):∃a,a∈l/\atI l (m % k)=some a:=by
 have h1:=Int.emod_nonneg m (show k≠0 by lia);have h2:=Int.emod_lt_of_pos m h0;have h3:(m % k).toNat < l.length:=by lia
 refine⟨l[(m % k).toNat],getElem_mem _,?_⟩;have:=a0 (xs:=l) (j:=(m % k).toNat) (v:=l[(m % k).toNat]) (by simp[h3]);rw[Int.toNat_of_nonneg h1] at this;exact this
noncomputable def isPl (c:Nat):Bool:=decide (48<=c/\c<=57) || decide (65<=c/\c<=90) || decide (97<=c/\c<=122) || decide (c=45) || decide (c=46) || decide (c=95)
theorem g9:∀c,c < 128->(decide (c∈(ofString "abcdefghijklmnopqrstuvwxyzABCDEFGHIJKLMNOPQRSTUVWXYZ0123456789-_.").cps.toList))=isPl c:=by fail "k"
noncomputable def wr1 (c:Nat):Tq:=if isPl c then [c] else [126,hexd (c / 16),hexd (c % 16)]
noncomputable def wr (l:Tq):Tq:=l.flatMap wr1
theorem xu (l m:Tq):wr (l++m)=wr l++wr m:=by unfold wr;rw[List.flatMap_append]
theorem kJ (c:Nat):(wr1 c).length<=3:=by unfold wr1;split <;> simp
theorem bK (l:Tq):(wr l).length<=3 * l.length:=by
 induction l with
 |nil=>simp[wr]
 |cons c r ih=>have:=kJ c;unfold wr at ih ⊢;rw[flatMap_cons,length_append,length_cons];lia
noncomputable def sgO (a b:Nat):Option Nat:=match fig a,fig b with
 |some h,some l=>if isSg (h * 16+l) then some (h * 16+l) else none
 |_,_=>none
noncomputable def oV:Option Nat->V
 |some c=>one c
 |none=>.non
theorem kK (a b:Nat):signOf a b=oV (sgO a b):=by
 unfold signOf sgO;cases fig a with
 |none=>rfl
 |some h=>
  cases fig b with
  |none=>rfl
  |some l=>simp only[sgV];split <;> rfl
noncomputable def und (fr:Tq):Tq->Option Tq
 |[]=>some []
 |c::r=>if c=126 then match r with
   |a::b::r'=>match sgO a b with
    |some d=>(und fr r').map (d::·)
    |none=>none
   |_=>none
  else if isPl c || decide (c∈fr) then (und fr r).map (c::·) else none
theorem kL (fr:Tq):und fr []=some []:=by unfold und;rfl
theorem kM {fr:Tq}{a b d:Nat}{r:Tq}(h:sgO a b=some d):und fr (126::a::b::r)=(und fr r).map (d::·):=by rw[und];simp only[if_true,h]
theorem xv {fr:Tq}{a b:Nat}{r:Tq}(h:sgO a b=none):und fr (126::a::b::r)=none:=by rw[und];simp only[if_true,h]
theorem xw {fr:Tq}{r:Tq}(h:r.length < 2):und fr (126::r)=none:=by
 match r,h with
 |[],_=>rw[und.eq_def];rfl
 |[a],_=>rw[und.eq_def];rfl
theorem kN {fr:Tq}{c:Nat}{r:Tq}(h:c≠126)(h2:(isPl c || decide (c∈fr))=true):und fr (c::r)=(und fr r).map (c::·):=by rw[und.eq_def];simp only[if_neg h,h2,if_true]
theorem xx {fr:Tq}{c:Nat}{r:Tq}(h:c≠126)(h2:¬ (isPl c || decide (c∈fr))=true):und fr (c::r)=none:=by rw[und.eq_def];simp only[if_neg h,h2,if_false];rfl
theorem kO {c:Nat}(hc:isSg c=true):sgO (hexd (c / 16)) (hexd (c % 16))=some c:=by
 have l:=ah hc;have key:∀h,h < 16->fig (hexd h)=some h:=by fail "k"
 unfold sgO;rw[key _ (by lia),key _ (by lia)];have e:c / 16 * 16+c % 16=c:=by lia
 simp only[e,hc,if_true]
theorem xy {ns:List Int}{k:Nat}(h:k < ns.length):atI (ns.map V.int) (k:Int)=some (.int (ns.getD k 0)):=by refine a0 ?_;rw[List.getElem?_map,List.getElem?_eq_getElem h,List.getD_eq_getElem?_getD,List.getElem?_eq_getElem h];rfl
theorem aA {n:Nat}(h:n<=100000):n<=sizeLine:=Nat.le_trans h (by decide)
theorem xz (l:Tq):(⟨l.toArray⟩:Str).cps.toList=l:=rfl
theorem y0 {H:Hp}{p:Addr}{o:HO}(hp:H p=none):Same H (upd H p o):=λb u e=>by rw[aE (aJ e hp)];exact e
noncomputable def undV:Option Tq->V
 |some d=>.str ⟨d.toArray⟩
 |none=>.non
noncomputable def swV (fr:Tq):Tq->V
 |[]=>.non
 |c::r=>if c=126 then signOfL r else if (isPl c || decide (c∈fr))=true then one c else .non
theorem kP (fr r:Tq):swV fr (126::r)=signOfL r:=by simp only[swV,if_true]
theorem kQ {fr:Tq}{c:Nat}(h:c≠126):swV fr [c]=if (isPl c || decide (c∈fr))=true then one c else .non:=by simp only[swV,if_neg h]
theorem y6 {c:Nat}(h:c≠126):¬ ((⟨#[c]⟩:Str)=⟨#[126]⟩):=λe=>h (by have:=aR.mp e;injection this)
theorem y8 {l:Tq}{p c:Nat}(h:l[p]?=some c):l.drop p=c::l.drop (p+1):=by obtain⟨hl,e⟩:=List.getElem?_eq_some_iff.mp h;rw[<- e];exact drop_eq_getElem_cons hl
theorem kR (dn:Tq):((dn.map λc=>(⟨[c].toArray⟩:Str)).flatMap λy=>y.cps.toList)=dn:=by
 induction dn with
 |nil=>rfl
 |cons c r ih=>rw[map_cons,flatMap_cons,ih];rfl
theorem kS (dn:Tq):((dn.map λc=>(⟨[c].toArray⟩:Str)).map (·.length)).sum=dn.length:=by
 induction dn with
 |nil=>rfl
 |cons c r ih=>rw[map_cons,map_cons,sum_cons,ih,length_cons];show 1+_=_;lia
theorem kT (dn:Tq)(d:Nat):dn.map one++[V.str ⟨#[d]⟩]=(dn++[d]).map one:=by rw[map_append];rfl
theorem yA {fr l dn:Tq}{p a b d:Nat}{r:Tq}(hu:und fr l=(und fr (l.drop p)).map (dn++·))(hd:l.drop p=126::a::b::r)(h:sgO a b=some d) :
  und fr l=(und fr (l.drop (p+3))).map ((dn++[d])++·):=by
 have e:l.drop (p+3)=r:=by rw[<- drop_drop,hd];rfl
 rw[hu,hd,kM h,e,Option.map_map]
 congr 1
 funext x
 simp
theorem yB {fr l dn:Tq}{p c:Nat}{r:Tq}(hu:und fr l=(und fr (l.drop p)).map (dn++·))(hd:l.drop p=c::r)(hc:c≠126)(h2:(isPl c || decide (c∈fr))=true) :
  und fr l=(und fr (l.drop (p+1))).map ((dn++[c])++·):=by
 have e:l.drop (p+1)=r:=by rw[<- drop_drop,hd];rfl
 rw[hu,hd,kN hc h2,e,Option.map_map]
 congr 1
 funext x
 simp
theorem yC (xs:List V)(m k:Int)(h0:0 < k)(h:k<=xs.length):∃a,a∈xs/\atI xs (m % k)=some a:=by
 have h1:=Int.emod_nonneg m (show k≠0 by lia);have h2:=Int.emod_lt_of_pos m h0;have h3:(m % k).toNat < xs.length:=by lia
 refine⟨xs[(m % k).toNat],getElem_mem _,?_⟩;have:=a0 (xs:=xs) (j:=(m % k).toNat) (v:=xs[(m % k).toNat]) (by simp[h3]);rw[Int.toNat_of_nonneg h1] at this;exact this
noncomputable def hit (a b c:Nat):Bool:=decide ([hexd (c / 16),hexd (c % 16)]=[PyProof.Rows.lo1 a,PyProof.Rows.lo1 b])
mutual
noncomputable def smallD:PyData->Bool
 |.str x=>decide (x.length<=100000)
 |.list xs=>decide (xs.length<=100000) && smallAll xs
 |.tuple xs=>decide (xs.length<=100000) && smallAll xs
 |.dict _=>true
 |.none=>true
 |.bool _=>true
 |.int _=>true
noncomputable def smallAll:List PyData->Bool
 |[]=>true
 |d::ds=>smallD d && smallAll ds
end
theorem kU:∀{ds:List PyData}{d:PyData},smallAll ds=true->d∈ds->smallD d=true
 |e::ds,d,h,hm=>by
  simp only[smallAll,Bool.and_eq_true] at h;rcases mem_cons.mp hm with rfl|hm
  .exact h.1
  .exact kU h.2 hm
theorem kW:∀{ds:List PyData},(∀d∈ds,smallD d=true)->smallAll ds=true
 |[],_=>rfl
 |d::ds,h=>by simp only[smallAll,Bool.and_eq_true];exact⟨h d mem_cons_self,kW λe he=>h e (mem_cons_of_mem _ he)⟩
theorem bp {x:Str}(h:smallD (.str x)=true):x.length<=100000:=by simpa [smallD] using h
theorem yD {ds:List PyData}(h:ds.length<=100000)(h2:smallAll ds=true):smallD (.list ds)=true:=by simp[smallD,h,h2]
noncomputable def isLet (c:Nat):Bool:=decide (65<=c/\c<=90) || decide (97<=c/\c<=122)
noncomputable def isAln (c:Nat):Bool:=isLet c || decide (48<=c/\c<=57)
theorem yE:∀c,c < 128->(decide (c∈(ofString "abcdefghijklmnopqrstuvwxyzABCDEFGHIJKLMNOPQRSTUVWXYZ").cps.toList))=isLet c:=by fail "k"
theorem yF:∀c,c < 128->(decide (c∈(ofString "abcdefghijklmnopqrstuvwxyzABCDEFGHIJKLMNOPQRSTUVWXYZ0123456789").cps.toList))=isAln c:=by fail "k"
theorem yG:(ofString " !\"#$&'()*+,-./0123456789:;<=>?@ABCDEFGHIJKLMNOPQRSTUVWXYZ[\\]^_`abcdefghijklmnopqrstuvwxyz{|}~").cps.toList=SG:=by fail "k"
theorem yH (c:Nat):(decide (c∈(ofString " !\"#$&'()*+,-./0123456789:;<=>?@ABCDEFGHIJKLMNOPQRSTUVWXYZ[\\]^_`abcdefghijklmnopqrstuvwxyz{|}~").cps.toList))=isSg c:=by rw[yG,Bool.eq_iff_iff,decide_eq_true_eq,kC]
noncomputable def tx:PyData->Bool
 |.str x=>x.cps.toList.all isSg
 |_=>false
noncomputable def ftx:PyData->Bool
 |.str x=>x.cps.toList.all isSg && decide (0 < x.length)
 |_=>false
noncomputable def schD:PyData->Bool
 |.str x=>x.cps.toList.all isSg && decide (x.length<=8) && (x.cps.toList.take 1).all isLet && x.cps.toList.all isAln
 |_=>false
noncomputable def stpD:PyData->Bool
 |.tuple ds=>ds.all ftx
 |_=>false
noncomputable def tupN (n:Int):PyData->Bool
 |.tuple ds=>decide ((ds.length:Int)=n)
 |_=>false
noncomputable abbrev st (l:Tq):PyData:=.str ⟨l.toArray⟩
noncomputable def oD:Option Tq->PyData
 |none=>.none
 |some l=>st l
noncomputable def otV:Option Tq->V
 |none=>.non
 |some l=>.str ⟨l.toArray⟩
theorem dS {H:Hp}(o:Option Tq):IsT H (oD o) (otV o):=by
 cases o with
 |none=>exact .non
 |some x=>exact .str _
noncomputable def iD:Option Int->PyData
 |none=>.none
 |some i=>.int i
noncomputable def qD:Option (List (Tq×Option Tq))->PyData
 |none=>.none
 |some ps=>.tuple (ps.map λp=>.tuple [st p.1,oD p.2])
structure Ad where
 scheme:Tq
 house:Option Tq
 door:Option Int
 rooted:Bool
 steps:List Tq
 ends:Bool
 quest:Option (List (Tq×Option Tq))
 mark:Option Tq
noncomputable def Ad.way (x:Ad):PyData:=.tuple [.bool x.rooted,.tuple (x.steps.map st),.bool x.ends]
noncomputable def Ad.data (x:Ad):PyData:=.tuple [st x.scheme,oD x.house,iD x.door,x.way,qD x.quest,oD x.mark]
def Tx (n:Nat)(l:Tq):Prop:=l.length<=n/\∀c∈l,isSg c=true
structure Ad.Ok (x:Ad):Prop where
 sch:x.scheme.length<=8/\(∀c∈x.scheme,isAln c=true)/\∀c∈x.scheme.take 1,isLet c=true
 hou:∀l,x.house=some l->0 < l.length/\Tx 60 l
 doo:∀i,x.door=some i->(0<=i/\i<=65535)/\x.house≠none
 stp:x.steps.length<=50/\∀l∈x.steps,0 < l.length/\Tx 60 l
 roo:x.scheme≠[]\/x.house≠none->x.rooted=true
 end_:x.steps=[]->x.ends=x.rooted
 que:∀ps,x.quest=some ps->ps.length<=20/\∀p∈ps,(0 < p.1.length/\Tx 6 p.1)/\∀v,p.2=some v->Tx 6 v
 mar:∀l,x.mark=some l->Tx 60 l
theorem kX {c:Nat}(h:isAln c=true):isSg c=true:=by simp only[isAln,isLet,Bool.or_eq_true,decide_eq_true_eq] at h;simp only[isSg,Bool.and_eq_true,decide_eq_true_eq,Bool.not_eq_true',decide_eq_false_iff_not];lia
theorem gB (l:Tq):(⟨l.toArray⟩:Str).length=l.length:=aG l
noncomputable def itV:Option Int->V
 |none=>.non
 |some i=>.int i
theorem yI {H:Hp}(o:Option Int):IsT H (iD o) (itV o):=by
 cases o with
 |none=>exact .non
 |some x=>exact .int _
theorem yJ (ds:List PyData):PyData.eqv (.tuple ds) (.tuple [])=ds.isEmpty:=by cases ds <;> simp[PyData.eqv,PyData.eqvAll]
theorem bF {l:Tq}:((⟨l.toArray⟩:Str)=⟨#[]⟩)↔l=[]:=aR (m:=[])
def Bad (f:PyData->Bool)(H:Hp)(v:V):Prop:=∃d,Is H d v/\smallD d=true/\f d=false
def Bads (f:PyData->Bool)(H:Hp)(vs:List V):Prop:=∀v∈vs,Bad f H v
theorem Bads.cons {f:PyData->Bool}{H:Hp}{v:V}{vs:List V}(h:Bad f H v)(r:Bads f H vs):Bads f H (v::vs):=λw hw=>by
 rcases mem_cons.mp hw with rfl|hw
 .exact h
 .exact r w hw
theorem bL {q:Addr}{H H':Hp}{o:HO}(hq:H q=none)(sm:Same H H'):Same H (upd H' q o):=λb u e=>by rw[aE (aJ e hq)];exact sm _ _ e
noncomputable def dg (i:Int):Tq:=(ofString (toString i)).cps.toList
theorem dU {i:Int}(hi:0<=i):∀c∈dg i,48<=c/\c<=57:=by intro c hc;obtain⟨n,rfl⟩:=Int.eq_ofNat_of_zero_le hi;unfold dg at hc;rw[PySem.W.KIN.signs_num,mem_map] at hc;obtain⟨d,hd,rfl⟩:=hc;have:=Nat.isDigit_of_mem_toDigits (by decide) (by decide) hd;simp only[Char.isDigit,Bool.and_eq_true,decide_eq_true_eq] at this;exact⟨this.1,this.2⟩
theorem kY {i:Int}(hi:0<=i)(hi':i<=65535):(dg i).length<=5:=by have:=PyProof.Rows.toString_length_le hi (k:=5) (by decide) (by lia);simpa [dg,Str.length] using this
def Hd (p:Nat->Bool)(r:Tq):Prop:=∀c r',r=c::r'->p c=true
theorem Hd.nil {p:Nat->Bool}:Hd p []:=λc r' h=>by cases h
theorem Hd.cons {p:Nat->Bool}{c:Nat}{r:Tq}(h:p c=true):Hd p (c::r):=λd r' e=>by injection e with e;exact e▸h
theorem cutL {p:Nat->Bool}:∀{u u' r r':Tq},(∀c∈u,p c=false)->(∀c∈u',p c=false)->Hd p r->Hd p r'->u++r=u'++r'->u=u'/\r=r'
 |[],[],r,r',_,_,_,_,e=>⟨rfl,e⟩
 |[],c::u',r,r',_,h',hr,_,e=>by have:=hr c (u'++r') e;rw[h' c (mem_cons_self ..)] at this;cases this
 |c::u,[],r,r',h,_,_,hr',e=>by have:=hr' c (u++r) e.symm;rw[h c (mem_cons_self ..)] at this;cases this
 |c::u,d::u',r,r',h,h',hr,hr',e=>by simp only[cons_append,List.cons.injEq] at e;obtain⟨e1,e2⟩:=cutL (λx hx=>h x (mem_cons_of_mem _ hx)) (λx hx=>h' x (mem_cons_of_mem _ hx)) hr hr' e.2;exact⟨by rw[e.1,e1],e2⟩
noncomputable def wch (c:Nat):Bool:=isPl c || decide (c=126)
theorem kZ:∀n,n < 16->isPl (hexd n)=true:=by fail "k"
theorem dW {l:Tq}(h:∀c∈l,isSg c=true):∀c∈wr l,wch c=true:=by
 intro c hc;unfold wr at hc;obtain⟨d,hd,hc⟩:=List.mem_flatMap.mp hc;have:=ah (h d hd);unfold wr1 at hc;split at hc
 .next hp=>rw[mem_singleton] at hc;rw[hc,wch,hp];rfl
 .simp only[mem_cons,not_mem_nil,or_false] at hc;rcases hc with rfl|rfl|rfl
  .rfl
  .rw[wch,kZ _ (by lia)];rfl
  .rw[wch,kZ _ (by lia)];rfl
theorem dX {c:Nat}(h:wch c=true):c≠35/\c≠38/\c≠47/\c≠58/\c≠61/\c≠63:=by refine⟨?_,?_,?_,?_,?_,?_⟩ <;> (rintro rfl;revert h;fail "k")
theorem ka {c:Nat}(h:isAln c=true):wch c=true:=by simp only[isAln,isLet,Bool.or_eq_true,decide_eq_true_eq] at h;simp only[wch,isPl,Bool.or_eq_true,decide_eq_true_eq];lia
noncomputable def tlT (sep:Nat):List Tq->Tq
 |[]=>[]
 |s::r=>sep::(s++tlT sep r)
noncomputable def joinT (sep:Nat):List Tq->Tq
 |[]=>[]
 |s::r=>s++tlT sep r
theorem dY (sep:Nat)(r:List Tq):Hd (λc=>decide (c=sep)) (tlT sep r):=by
 cases r with
 |nil=>exact .nil
 |cons s r=>exact .cons (by simp)
def Free (sep:Nat)(ss:List Tq):Prop:=∀s∈ss,∀c∈s,c≠sep
theorem Free.hd {sep:Nat}{s:Tq}{ss:List Tq}(h:Free sep (s::ss)):∀c∈s,(λc=>decide (c=sep)) c=false:=λc hc=>decide_eq_false (h s (mem_cons_self ..) c hc)
theorem Free.tl {sep:Nat}{s:Tq}{ss:List Tq}(h:Free sep (s::ss)):Free sep ss:=λt ht=>h t (mem_cons_of_mem _ ht)
theorem kc {sep:Nat}:∀{a b:List Tq},Free sep a->Free sep b->tlT sep a=tlT sep b->a=b
 |[],[],_,_,_=>rfl
 |[],t::b,_,_,e=>by simp[tlT] at e
 |s::a,[],_,_,e=>by simp[tlT] at e
 |s::a,t::b,ha,hb,e=>by simp only[tlT,List.cons.injEq,true_and] at e;obtain⟨e1,e2⟩:=cutL ha.hd hb.hd (dY sep a) (dY sep b) e;rw[e1,kc ha.tl hb.tl e2]
theorem yK {sep:Nat}{a b:List Tq}(ha:Free sep a)(hb:Free sep b)(na:a≠[])(nb:b≠[])(e:joinT sep a=joinT sep b):a=b:=by
 match a,b,na,nb with
 |s::a,t::b,_,_=>simp only[joinT] at e;obtain⟨e1,e2⟩:=cutL ha.hd hb.hd (dY sep a) (dY sep b) e;rw[e1,kc ha.tl hb.tl e2]
theorem kd (sep:Nat):∀(a:List Tq) (s:Tq),tlT sep (a++[s])=tlT sep a++sep::s
 |[],s=>by simp[tlT]
 |t::a,s=>by simp[tlT,kd sep a s]
theorem yL (sep:Nat){a:List Tq}(s:Tq)(h:a≠[]):joinT sep (a++[s])=joinT sep a++sep::s:=by
 match a,h with
 |t::a,_=>simp[joinT,kd]
theorem kf {sep:Nat}{P:Nat->Prop}(hs:P sep):∀{a:List Tq},(∀s∈a,∀c∈s,P c)->∀c∈tlT sep a,P c
 |[],_,c,hc=>by cases hc
 |s::a,h,c,hc=>by
  simp only[tlT,mem_cons,mem_append] at hc;rcases hc with rfl|hc|hc
  .exact hs
  .exact h s (mem_cons_self ..) c hc
  .exact kf hs (λt ht=>h t (mem_cons_of_mem _ ht)) c hc
theorem kg {sep:Nat}{P:Nat->Prop}(hs:P sep){a:List Tq}(h:∀s∈a,∀c∈s,P c):∀c∈joinT sep a,P c:=by
 intro c hc;match a with
 |[]=>cases hc
 |s::a=>
  simp only[joinT,mem_append] at hc;rcases hc with hc|hc
  .exact h s (mem_cons_self ..) c hc
  .exact kf hs (λt ht=>h t (mem_cons_of_mem _ ht)) c hc
noncomputable def oT (sep:Nat):Option Tq->Tq
 |none=>[]
 |some l=>sep::wr l
noncomputable def pairT (p:Tq×Option Tq):Tq:=wr p.1++oT 61 p.2
noncomputable def queT:Option (List (Tq×Option Tq))->Tq
 |none=>[]
 |some ps=>63::joinT 38 (ps.map pairT)
noncomputable def wayT (r:Bool)(ss:List Tq)(e:Bool):Tq:=(if r then [47] else [])++(joinT 47 (ss.map wr)++(if e && !ss.isEmpty then [47] else []))
noncomputable def dooT:Option Int->Tq
 |none=>[]
 |some i=>58::dg i
noncomputable def houT:Option Tq->Tq
 |none=>[]
 |some l=>47::47::wr l
noncomputable def schT (s:Tq):Tq:=if s=[] then [] else s++[58]
noncomputable def Ad.wayT (x:Ad):Tq:=Wm.wayT x.rooted x.steps x.ends
noncomputable def Ad.shw (x:Ad):Tq:=schT x.scheme++(houT x.house++(dooT x.door++(x.wayT++(queT x.quest++oT 35 x.mark))))
theorem gC {sep:Nat}{P:Nat->Prop}(hs:P sep)(hw:∀c,wch c=true->P c){o:Option Tq}(h:∀l,o=some l->∀c∈l,isSg c=true):∀c∈oT sep o,P c:=by
 intro c hc;cases o with
 |none=>cases hc
 |some l=>
  simp only[oT,mem_cons] at hc;rcases hc with rfl|hc
  .exact hs
  .exact hw c (dW (h l rfl) c hc)
def PairOk (p:Tq×Option Tq):Prop:=(0 < p.1.length/\∀c∈p.1,isSg c=true)/\∀v,p.2=some v->∀c∈v,isSg c=true
theorem yM {P:Nat->Prop}(hs:P 61)(hw:∀c,wch c=true->P c){p:Tq×Option Tq}(h:PairOk p):∀c∈pairT p,P c:=by
 intro c hc;rcases mem_append.mp hc with hc|hc
 .exact hw c (dW h.1.2 c hc)
 .exact gC hs hw h.2 c hc
def StepOk (s:Tq):Prop:=0 < s.length/\∀c∈s,isSg c=true
noncomputable def stpT (ss:List Tq)(e:Bool):Tq:=joinT 47 (ss.map wr)++(if e && !ss.isEmpty then [47] else [])
theorem yN (e:Bool):stpT [] e=[]:=by simp[stpT,joinT]
theorem kh (r:Bool)(ss:List Tq)(e:Bool):wayT r ss e=(if r then [47] else [])++stpT ss e:=rfl
structure Ad.Wf (x:Ad):Prop where
 sch:x.scheme.length<=8/\(∀c∈x.scheme,isAln c=true)/\∀c∈x.scheme.take 1,isLet c=true
 hou:∀l,x.house=some l->(0 < l.length/\l.length<=60)/\∀c∈l,isSg c=true
 doo:∀i,x.door=some i->(0<=i/\i<=65535)/\x.house≠none
 stp:∀s∈x.steps,StepOk s
 roo:x.scheme≠[]\/x.house≠none->x.rooted=true
 end_:x.steps=[]->x.ends=x.rooted
 que:∀ps,x.quest=some ps->∀p∈ps,PairOk p
 mar:∀l,x.mark=some l->∀c∈l,isSg c=true
noncomputable def Ad.mid (x:Ad):Tq:=houT x.house++(dooT x.door++x.wayT)
noncomputable def Ad.pre (x:Ad):Tq:=schT x.scheme++x.mid
theorem Ad.shw_eq (x:Ad):x.shw=(x.pre++queT x.quest)++oT 35 x.mark:=by simp[Ad.shw,Ad.pre,Ad.mid]
theorem yO {P:Nat->Prop}(hs:P 47)(hw:∀c,wch c=true->P c){ss:List Tq}{e:Bool}(h:∀s∈ss,StepOk s):∀c∈stpT ss e,P c:=by
 intro c hc;rcases mem_append.mp hc with hc|hc
 .refine kg hs (λs hs' d hd=>?_) c hc;obtain⟨t,ht,rfl⟩:=mem_map.mp hs';exact hw d (dW (h t ht).2 d hd)
 .split at hc
  .rw[mem_singleton.mp hc];exact hs
  .cases hc
theorem ki {P:Nat->Prop}(hs:P 47)(hw:∀c,wch c=true->P c){r:Bool}{ss:List Tq}{e:Bool}(h:∀s∈ss,StepOk s):∀c∈wayT r ss e,P c:=by
 intro c hc;rw[kh] at hc;rcases mem_append.mp hc with hc|hc
 .split at hc
  .rw[mem_singleton.mp hc];exact hs
  .cases hc
 .exact yO hs hw h c hc
theorem yP {c:Nat}(h:48<=c/\c<=57):wch c=true:=by simp only[wch,isPl,Bool.or_eq_true,decide_eq_true_eq];lia
theorem Ad.Wf.pre_all {P:Nat->Prop}{x:Ad}(h:x.Wf)(h1:P 47)(h2:P 58)(hw:∀c,wch c=true->P c):∀c∈x.pre,P c:=by
 intro c hc;rcases mem_append.mp hc with hc|hc
 .unfold schT at hc;split at hc
  .cases hc
  .rcases mem_append.mp hc with hc|hc
   .exact hw c (ka (h.sch.2.1 c hc))
   .rw[mem_singleton.mp hc];exact h2
 rcases mem_append.mp hc with hc|hc
 .cases hh:x.house with
  |none=>rw[hh] at hc;cases hc
  |some l=>
   rw[hh] at hc;simp only[houT,mem_cons] at hc;rcases hc with rfl|rfl|hc
   .exact h1
   .exact h1
   .exact hw c (dW (h.hou l hh).2 c hc)
 rcases mem_append.mp hc with hc|hc
 .cases hd:x.door with
  |none=>rw[hd] at hc;cases hc
  |some i=>
   rw[hd] at hc;simp only[dooT,mem_cons] at hc;rcases hc with rfl|hc
   .exact h2
   .exact hw c (yP (dU (h.doo i hd).1.1 c hc))
 .exact ki h1 hw h.stp c hc
theorem kj (l m:Tq):PyData.eqv (st l) (st m)=true↔l=m:=by simp only[PyData.eqv,beq_iff_eq];exact aR
theorem gD (a b:Option Tq):PyData.eqv (oD a) (oD b)=true↔a=b:=by
 match a,b with
 |none,none=>simp[oD,PyData.eqv]
 |none,some m=>simp[oD,PyData.eqv]
 |some l,none=>simp[oD,PyData.eqv]
 |some l,some m=>exact (kj l m).trans (by simp)
theorem yQ (a b:Option Int):PyData.eqv (iD a) (iD b)=true↔a=b:=by
 match a,b with
 |none,none=>simp[iD,PyData.eqv]
 |none,some m=>simp[iD,PyData.eqv]
 |some l,none=>simp[iD,PyData.eqv]
 |some l,some m=>simp[iD,PyData.eqv]
theorem dZ {α:Type}{f:α->PyData}(hf:∀a b,PyData.eqv (f a) (f b)=true↔a=b):∀(l m:List α),PyData.eqvAll (l.map f) (m.map f)=true↔l=m
 |[],[]=>by simp[PyData.eqvAll]
 |[],b::m=>by simp[PyData.eqvAll]
 |a::l,[]=>by simp[PyData.eqvAll]
 |a::l,b::m=>by simp only[map_cons,PyData.eqvAll,Bool.and_eq_true,List.cons.injEq];rw[hf a b,dZ hf l m]
theorem yR (a b:Option (List (Tq×Option Tq))):PyData.eqv (qD a) (qD b)=true↔a=b:=by
 match a,b with
 |none,none=>simp[qD,PyData.eqv]
 |none,some m=>simp[qD,PyData.eqv]
 |some l,none=>simp[qD,PyData.eqv]
 |some l,some m=>simp only[qD,PyData.eqv,Option.some.injEq];refine dZ (λa b=>?_) l m;simp only[PyData.eqv,PyData.eqvAll,Bool.and_eq_true,Bool.and_true];rw[gD,beq_iff_eq];exact⟨λh=>Prod.ext (aR.mp h.1) h.2,λh=>by rw[h];exact⟨rfl,rfl⟩⟩
theorem yS (x y:Ad):PyData.eqv x.way y.way=true↔x.rooted=y.rooted/\x.steps=y.steps/\x.ends=y.ends:=by simp only[Ad.way,PyData.eqv,PyData.eqvAll,Bool.and_eq_true,Bool.and_true,beq_iff_eq];rw[dZ kj]
theorem Ad.eqv_iff (x y:Ad):PyData.eqv x.data y.data=true↔x=y:=by
 simp only[Ad.data,PyData.eqv,PyData.eqvAll,Bool.and_eq_true,Bool.and_true,beq_iff_eq];rw[gD,yQ,yS,yR,gD];cases x;cases y;simp only[Ad.mk.injEq];constructor
 .rintro⟨h1,h2,h3,⟨h4,h5,h6⟩,h7,h8⟩;exact⟨aR.mp h1,h2,h3,h4,h5,h6,h7,h8⟩
 .rintro⟨h1,h2,h3,h4,h5,h6,h7,h8⟩;exact⟨by rw[h1],h2,h3,⟨h4,h5,h6⟩,h7,h8⟩
def LayAt (n:Nat)(d:PyData):Prop:=d.canLay0=true/\d.depth<=n
theorem LayAt.shaped {n:Nat}{d:PyData}(h:LayAt n d)(hn:n<=64):SeqAt.shaped d=true:=by unfold SeqAt.shaped;rw[h.1,decide_eq_true (Nat.le_trans h.2 hn)];rfl
theorem LayAt.le {n m:Nat}{d:PyData}(h:LayAt n d)(hn:n<=m):LayAt m d:=⟨h.1,Nat.le_trans h.2 hn⟩
theorem layAll {n:Nat}:∀{ds:List PyData},(∀d∈ds,LayAt n d)->PyData.canLayAll0 ds=true/\PyData.depthAll ds<=n
 |[],_=>⟨rfl,Nat.zero_le _⟩
 |d::ds,h=>by obtain⟨h1,h2⟩:=layAll (ds:=ds) λe he=>h e (mem_cons_of_mem _ he);have:=h d (mem_cons_self ..);simp only[PyData.canLayAll0,PyData.depthAll,this.1,h1,Bool.and_self,true_and];exact Nat.max_le.mpr ⟨this.2,h2⟩
theorem LayAt.tup {n:Nat}{ds:List PyData}(h:∀d∈ds,LayAt n d):LayAt (n+1) (.tuple ds):=by obtain⟨h1,h2⟩:=layAll h;exact⟨by simp only[PyData.canLay0,h1],by simp only[PyData.depth];lia⟩
theorem LayAt.st {l:Tq}(h:∀c∈l,isSg c=true):LayAt 0 (st l):=by refine⟨?_,Nat.le_refl _⟩;simp only[PyData.canLay0,PyData.strOk,List.all_toArray,all_eq_true,decide_eq_true_eq];intro c hc;have:=ah (h c hc);lia
theorem LayAt.bool {b:Bool}:LayAt 0 (.bool b):=⟨rfl,Nat.le_refl _⟩
theorem LayAt.oD {o:Option Tq}(h:∀l,o=some l->∀c∈l,isSg c=true):LayAt 0 (oD o):=by
 cases o with
 |none=>exact⟨rfl,Nat.le_refl _⟩
 |some l=>exact .st (h l rfl)
theorem LayAt.iD {o:Option Int}:LayAt 0 (iD o):=by
 cases o with
 |none=>exact⟨rfl,Nat.le_refl _⟩
 |some l=>exact⟨rfl,Nat.le_refl _⟩
theorem LayAt.qD {q:Option (List (Tq×Option Tq))}(h:∀ps,q=some ps->∀p∈ps,PairOk p):LayAt 2 (qD q):=by
 cases q with
 |none=>exact⟨rfl,Nat.zero_le _⟩
 |some ps=>
  refine .tup (n:=1) λd hd=>?_;obtain⟨p,hp,rfl⟩:=mem_map.mp hd;have hk:=h ps rfl p hp;refine .tup (n:=0) λe he=>?_;simp only[mem_cons,not_mem_nil,or_false] at he;rcases he with rfl|rfl
  .exact .st hk.1.2
  .exact .oD hk.2
theorem Ad.Wf.layWay {x:Ad}(h:x.Wf):LayAt 2 x.way:=by
 refine .tup (n:=1) λe he=>?_;simp only[mem_cons,not_mem_nil,or_false] at he;rcases he with rfl|rfl|rfl
 .exact LayAt.bool.le (by decide)
 .refine .tup (n:=0) λd hd=>?_;obtain⟨s,hs,rfl⟩:=mem_map.mp hd;exact .st (h.stp s hs).2
 .exact LayAt.bool.le (by decide)
theorem Ad.Wf.lay {x:Ad}(h:x.Wf):LayAt 3 x.data:=by
 refine .tup (n:=2) λe he=>?_;simp only[mem_cons,not_mem_nil,or_false] at he;rcases he with rfl|rfl|rfl|rfl|rfl|rfl
 .exact (LayAt.st λc hc=>kX (h.sch.2.1 c hc)).le (by decide)
 .exact (LayAt.oD λl e=>(h.hou l e).2).le (by decide)
 .exact LayAt.iD.le (by decide)
 .exact h.layWay
 .exact .qD h.que
 .exact (LayAt.oD h.mar).le (by decide)
theorem Ad.Wf.shaped {x:Ad}(h:x.Wf):SeqAt.shaped x.data=true:=h.lay.shaped (by decide)
theorem gE {H:Hp}{l:Tq}{v:V}(h:IsT H (st l) v):v=.str ⟨l.toArray⟩:=by cases h;rfl
theorem km {H:Hp}{o:Option Tq}{v:V}(h:IsT H (oD o) v):v=otV o:=by
 cases o with
 |none=>cases h;rfl
 |some l=>exact gE h
theorem yT {H:Hp}{o:Option Int}{v:V}(h:IsT H (iD o) v):v=itV o:=by
 cases o with
 |none=>cases h;rfl
 |some l=>cases h;rfl
theorem kn {H:Hp}{b:Bool}{v:V}(h:IsT H (.bool b) v):v=.bl b:=by cases h;rfl
theorem bX {H:Hp}{ds:List PyData}{v:V}(h:IsT H (.tuple ds) v):∃p xs,v=.ref p/\H p=some (.tup xs)/\IsTAll H ds xs:=by
 cases h with
 |tup h1 h2=>exact⟨_,_,rfl,h1,h2⟩
theorem isT2 {H:Hp}{a b:PyData}{v:V}(h:IsT H (.tuple [a,b]) v):∃p x y,v=.ref p/\H p=some (.tup [x,y])/\IsT H a x/\IsT H b y:=by
 obtain⟨p,xs,rfl,hp,r⟩:=bX h;cases r with
 |cons h1 r=>cases r with
  |cons h2 r=>cases r;exact⟨p,_,_,rfl,hp,h1,h2⟩
theorem isT3 {H:Hp}{a b c:PyData}{v:V}(h:IsT H (.tuple [a,b,c]) v):∃p x y z,v=.ref p/\H p=some (.tup [x,y,z])/\IsT H a x/\IsT H b y/\IsT H c z:=by
 obtain⟨p,xs,rfl,hp,r⟩:=bX h;cases r with
 |cons h1 r=>cases r with
  |cons h2 r=>cases r with
   |cons h3 r=>cases r;exact⟨p,_,_,_,rfl,hp,h1,h2,h3⟩
theorem isT6 {H:Hp}{a b c d e f:PyData}{v:V}(h:IsT H (.tuple [a,b,c,d,e,f]) v):∃p x0 x1 x2 x3 x4 x5,v=.ref p/\H p=some (.tup [x0,x1,x2,x3,x4,x5])/\IsT H a x0/\IsT H b x1/\IsT H c x2/\IsT H d x3/\IsT H e x4/\IsT H f x5:=by
 obtain⟨p,xs,rfl,hp,r⟩:=bX h;cases r with
 |cons h1 r=>cases r with
  |cons h2 r=>cases r with
   |cons h3 r=>cases r with
    |cons h4 r=>cases r with
     |cons h5 r=>cases r with
      |cons h6 r=>cases r;exact⟨p,_,_,_,_,_,_,rfl,hp,h1,h2,h3,h4,h5,h6⟩
theorem ko {H:Hp}:∀{ss:List Tq}{xs:List V},IsTAll H (ss.map st) xs->xs=ss.map λl=>V.str ⟨l.toArray⟩
 |[],_,h=>by cases h;rfl
 |s::ss,_,h=>by
  cases h with
  |cons h1 h2=>rw[gE h1,ko h2];rfl
end Wm
namespace Wm
structure Ad.Sz (x:Ad):Prop where
 stp:∀s∈x.steps,s.length<=2000
 que:∀ps,x.quest=some ps->ps.length<=2000/\∀p∈ps,p.1.length<=2000/\∀v,p.2=some v->v.length<=2000
 mar:∀l,x.mark=some l->l.length<=2000
 num:x.steps.length<=2000
 all:x.shw.length<=90000
theorem lg {i:Int}(h:0<=i)(h':i<=65535):i.natAbs.log2 < 1920:=by
 by_cases h0:i.natAbs=0
 .rw[h0];simp
 .refine (Nat.log2_lt h0).mpr (Nat.lt_of_lt_of_le (show i.natAbs < 2 ^ 16 by lia) (Nat.pow_le_pow_right (by decide) (by decide)))
theorem kq (i:Int):PySem.Str.ofString (toString i)=⟨(dg i).toArray⟩:=rfl
end Wm
namespace Wm
open PySem L2
theorem gF (sep:Nat)(ys:List Tq):Txt.join (⟨[sep].toArray⟩:Str) (ys.map λl=>(⟨l.toArray⟩:Str))=⟨(joinT sep ys).toArray⟩:=by
 show Builtin.Str.glued _ _=_;rw[StrLaws.glued_eq_join];induction ys with
 |nil=>rfl
 |cons y r ih=>
  cases r with
  |nil=>show (⟨y.toArray⟩:Str)=_;simp[joinT,tlT]
  |cons z r=>show (⟨y.toArray⟩:Str)++(⟨[sep].toArray⟩:Str)++Str.join ⟨[sep].toArray⟩ ((z::r).map λl=>(⟨l.toArray⟩:Str))=_;rw[ih,aU,aU];simp[joinT,tlT]
theorem kr {sep:Nat}:∀(ys:List Tq),(tlT sep ys).length=(ys.map (·.length)).sum+ys.length
 |[]=>rfl
 |y::r=>by simp only[tlT,length_cons,length_append,map_cons,sum_cons,kr r];lia
theorem kt {sep:Nat}(ys:List Tq):(ys.map (·.length)).sum+ys.length<=(joinT sep ys).length+1:=by
 cases ys with
 |nil=>simp[joinT]
 |cons y r=>simp only[joinT,length_append,map_cons,sum_cons,length_cons,kr];lia
theorem ku {sep m:Nat}:∀{ys:List Tq},(∀s∈ys,s.length<=m)->(tlT sep ys).length<=ys.length * (m+1)
 |[],_=>by simp[tlT]
 |y::r,h=>by have h1:=h y (mem_cons_self ..);have h2:=ku (sep:=sep) (ys:=r) λs hs=>h s (mem_cons_of_mem _ hs);simp only[tlT,length_cons,length_append,Nat.add_mul,Nat.one_mul];lia
theorem yU {sep m:Nat}{ys:List Tq}(h:∀s∈ys,s.length<=m):(joinT sep ys).length<=ys.length * (m+1):=by
 cases ys with
 |nil=>simp[joinT]
 |cons y r=>have h1:=h y (mem_cons_self ..);have h2:=ku (sep:=sep) (ys:=r) λs hs=>h s (mem_cons_of_mem _ hs);simp only[joinT,length_cons,length_append,Nat.add_mul,Nat.one_mul];lia
theorem ky {sep n:Nat}{o:Option Tq}(h:∀l,o=some l->l.length<=n):(oT sep o).length<=3 * n+1:=by
 cases o with
 |none=>simp[oT]
 |some l=>have:=h l rfl;have:=bK l;simp only[oT,length_cons];lia
theorem kz (ts:List Tq):(ts.map λl=>(⟨l.toArray⟩:Str)).map (·.length)=ts.map List.length:=by rw[map_map];apply map_congr_left;intro l _;exact aG l
theorem yV {a:V}{r:List V}:atI (a::r) 0=some a:=by unfold atI ixN;simp
noncomputable def slT (r:Bool)(ts:List Tq)(e:Bool):Tq:=(if r then [47] else [])++(joinT 47 ts++(if e && !ts.isEmpty then [47] else []))
theorem yW (r:Bool)(ss:List Tq)(e:Bool):wayT r ss e=slT r (ss.map wr) e:=by unfold wayT slT;simp
end Wm
namespace L2
open PySem
end L2
namespace Wm
open PySem L2
noncomputable abbrev Stp:=Tq
noncomputable def sUp:Stp:=[46,46]
noncomputable def sStay:Stp:=[46]
noncomputable def isDot (s:Stp):Bool:=decide (s=sUp) || decide (s=sStay)
theorem l4 {s:Stp}:isDot s=false↔s≠sUp/\s≠sStay:=by simp[isDot]
noncomputable def fwd (r:Bool)(q:Nat×List Stp)(s:Stp):Nat×List Stp:=
 if s=sUp then (match q.2 with|[]=>(if r then q.1 else q.1+1,[])|_::t=>(q.1,t))
 else if s=sStay then q else (q.1,s::q.2)
noncomputable def goneS (r:Bool)(ss:List Stp):List Stp:=List.replicate (ss.foldl (fwd r) (0,[])).1 sUp++(ss.foldl (fwd r) (0,[])).2.reverse
noncomputable def lastDot (ss:List Stp):Bool:=match ss.getLast? with|some s=>isDot s|none=>false
noncomputable def goneW (r:Bool)(ss:List Stp)(e:Bool):Bool×List Stp×Bool:=
 if ss=[] then (r,[],e) else if goneS r ss=[] then (r,if r then [] else [sStay],true) else (r,goneS r ss,e || lastDot ss)
noncomputable def stk (q:Nat×List Stp):List Stp:=List.replicate q.1 sUp++q.2.reverse
end Wm
namespace L2
open PySem PySem.Spec PyProof.Rows HT
section
variable {prog:Program}{w:World}{A:Around}{E:Value->Shared->Prop}{s:Shared}
theorem yX {t sl:Addr}{items:Array Value}{vl vu:Value}{lo hi:Option Int}{Q:Value->Shared->Prop}(ht:IsTup s.heap t items)(hs:s.heap.IsSliceOf sl vl vu .none)(pl:IsPart vl lo)(pu:IsPart vu hi)
  (hw:sIx items.size 0 lo=0/\sIx items.size items.size hi=items.size) (h:Q (.ref t) s):wpAny (model prog w) A (getItem (.ref t) (.ref sl)) Q E s:=by
 obtain⟨os,dl,ld,BT⟩:=id hs;have mt:s.TypeIs (.ref sl) "slice" := ⟨os,dl,ld⟩;unfold getItem;try with_reducible refine wpAny_holding ?_
 first|refine wpAny_bind (wpAny_pure ?_)|skip
 refine wpAny_bind (wpAny_sequenceKey ht.typeIs (by decide) ?_);refine wpAny_bind (wpAny_callSpecial?_slot (name:=ofString "__getitem__") ht.typeIs PyProof.Rows.slot_tuple_getitem
  (wpAny_call_entry PyProof.Rows.slot_tuple_getitem ht.typeIs entry_tuple_getitem ?_ (args_tuple_getitem _ _)))
 show wpAny _ _ (Builtin.Tuple.tupleItemsOf (.ref t) >>= _) _ _ s;refine wpAny_bind (tupleItemsOf_ ht ?_);refine wpAny_bind (wpAny_typeOf mt ?_);rw[if_pos (by decide)];refine wpAny_bind (jf hs pl pu ?_);show wpAny _ _ (if (((sIx items.size 0 lo:Nat):Int) == 0 && (1:Int) == 1 && (sIx items.size items.size hi - sIx items.size 0 lo) == items.size)=true then _ else _) _ _ s;rw[if_pos (by rw[hw.1,hw.2];simp)];refine wpAny_bind ?_;show wpAny _ _ (typeOf (.ref t) >>= _) _ _ s;refine wpAny_bind (wpAny_typeOf ht.typeIs (wpAny_pure ?_));rw[if_pos (by decide)];exact wpAny_bind (wpAny_rule (wpAny_pure ⟨_,rfl,wpAny_pure h⟩))
end
section
variable {X:Cx}{K:W.Frag}
def rSlTA:V->Option Int->Option Int->Hp->VK->Prop:=λx lo hi H Q=>∃a xs,x=.ref a/\H a=some (.tup xs)/\∀p H',Same H H'->H' p=some (.tup (cutV xs lo hi))->Q (.ref p) H'
theorem yY {xs:List V}{lo hi:Option Int}(h:sIx xs.length 0 lo=0/\sIx xs.length xs.length hi=xs.length):cutV xs lo hi=xs:=by unfold cutV;rw[h.1,h.2,drop_zero,Nat.sub_zero,take_length]
theorem yZ:SlR X rSlTA:=by
 intro dl s Z H x v vl vu lo hi sl Q I rx hs pl pu h;obtain⟨a,xs,rfl,hx,q⟩:=h;by_cases hw:sIx xs.length 0 lo=0/\sIx xs.length xs.length hi=xs.length
 .cases rx;obtain⟨mt,r,ht,hz⟩:=I.tuple (SqT.of hx);have ld:mt.toArray.size=xs.length:=by rw[size_toArray];exact r.length.symm
  refine⟨"tuple",_,PyProof.Rows.slot_tuple_getitem.lookup,ht.typeIs,?_⟩;exact yX ht hs pl pu (by rw[ld];exact hw) ⟨.ref a,H,I,rfl,q a H (Same.refl _) (by rw[yY hw];exact hx)⟩
 .exact uJ dl s Z H _ v vl vu lo hi sl Q I rx hs pl pu ⟨a,xs,rfl,SqT.of hx,hw,λp hp=>q p _ (aN hp) aC⟩
theorem ya {a:Addr}{lo hi:Option Int}{H:Hp}{Q:VK}:rSlTA (.ref a) lo hi H Q↔∃xs,H a=some (.tup xs)/\∀p H',Same H H'->H' p=some (.tup (cutV xs lo hi))->Q (.ref p) H':=by
 constructor
 .rintro⟨p,bs,h1,h2⟩;cases h1;exact⟨bs,h2⟩
 .rintro⟨bs,h⟩;exact⟨a,bs,rfl,h⟩
end
mutual
inductive IsK (K:W.Frag)(H:Hp):PyData->V->Prop
 |non:IsK K H .none .non
 |bl (b:Bool):IsK K H (.bool b) (.bl b)
 |int (i:Int):IsK K H (.int i) (.int i)
 |str (x:Str):IsK K H (.str x) (.str x)
 |tup {p:Addr}{xs:List V}{ds:List PyData}:SqT K H p xs->IsKAll K H ds xs->IsK K H (.tuple ds) (.ref p)
inductive IsKAll (K:W.Frag)(H:Hp):List PyData->List V->Prop
 |nil:IsKAll K H [] []
 |cons {d:PyData}{x:V}{ds:List PyData}{xs:List V}:IsK K H d x->IsKAll K H ds xs->IsKAll K H (d::ds) (x::xs)
end
section
variable {K:W.Frag}{H H':Hp}
mutual
theorem IsK.mono (sm:Same H H'):∀{d:PyData}{x:V},IsK K H d x->IsK K H' d x
 |_,_,.non=>.non
 |_,_,.bl b=>.bl b
 |_,_,.int i=>.int i
 |_,_,.str x=>.str x
 |_,_,.tup h r=>.tup (sm.tup h) (IsKAll.mono sm r)
theorem IsKAll.mono (sm:Same H H'):∀{ds:List PyData}{xs:List V},IsKAll K H ds xs->IsKAll K H' ds xs
 |_,_,.nil=>.nil
 |_,_,.cons h r=>.cons (IsK.mono sm h) (IsKAll.mono sm r)
end
mutual
theorem IsT.k:∀{d:PyData}{x:V},IsT H d x->IsK K H d x
 |_,_,.non=>.non
 |_,_,.bl b=>.bl b
 |_,_,.int i=>.int i
 |_,_,.str x=>.str x
 |_,_,.tup h r=>.tup (SqT.of h) (IsTAll.k r)
theorem IsTAll.k:∀{ds:List PyData}{xs:List V},IsTAll H ds xs->IsKAll K H ds xs
 |_,_,.nil=>.nil
 |_,_,.cons h r=>.cons (IsT.k h) (IsTAll.k r)
end
end
section
variable {X:Cx}{pins:List (Addr×Obj)}{Z:St}{H:Hp}{s:Shared}
mutual
theorem IsK.reads (I:Inv X pins Z H s):∀{d:PyData}{x:V}{v:Value},IsK X.K H d x->RelV x v->∃as,Reads s.heap v d as
 |_,_,_,.non,r=>by cases r;exact⟨_,.none⟩
 |_,_,_,.bl b,r=>by cases r;exact⟨_,.bool b⟩
 |_,_,_,.int i,r=>by obtain⟨t,rfl⟩:=r;exact⟨_,.int i t⟩
 |_,_,_,.str x,r=>by obtain⟨t,rfl⟩:=r;exact⟨_,.str x t⟩
 |_,_,_,.tup h q,r=>by cases r;obtain⟨its,vs,⟨o,e,c,n,dt⟩,_⟩:=I.tuple h;obtain⟨as,ra⟩:=IsKAll.reads I q vs;exact⟨_,.tuple e c dt (by simpa using ra)⟩
theorem IsKAll.reads (I:Inv X pins Z H s):∀{ds:List PyData}{xs:List V}{vs:List Value},IsKAll X.K H ds xs->Vals xs vs->∃as,ReadsAll s.heap vs ds as
 |_,_,_,.nil,r=>by cases r;exact⟨_,.nil⟩
 |_,_,_,.cons q t,r=>by
  cases r with
  |cons r1 r2=>obtain⟨as,h1⟩:=IsK.reads I q r1;obtain⟨bs,h2⟩:=IsKAll.reads I t r2;exact⟨_,.cons h1 h2⟩
end
variable {K:W.Frag}
def KindK (K:W.Frag)(H:Hp)(x:V)(k:String):Prop:=kindV x H=some k\/∃a xs,x=.ref a/\SqT K H a xs/\k = "tuple"
theorem KindK.tup {K:W.Frag}{H:Hp}{a:Addr}{xs:List V}(h:SqT K H a xs):KindK K H (.ref a) "tuple" := .inr ⟨a,xs,rfl,h,rfl⟩
end
end L2
namespace Wm
open PySem L2
section
variable {K:W.Frag}{H:Hp}
theorem da {l:Tq}{v:V}(h:IsK K H (st l) v):v=.str ⟨l.toArray⟩:=by cases h;rfl
theorem gG {o:Option Tq}{v:V}(h:IsK K H (oD o) v):v=otV o:=by
 cases o with
 |none=>cases h;rfl
 |some l=>exact da h
theorem yb {o:Option Int}{v:V}(h:IsK K H (iD o) v):v=itV o:=by
 cases o with
 |none=>cases h;rfl
 |some l=>cases h;rfl
theorem l5 {b:Bool}{v:V}(h:IsK K H (.bool b) v):v=.bl b:=by cases h;rfl
theorem cR {ds:List PyData}{v:V}(h:IsK K H (.tuple ds) v):∃p xs,v=.ref p/\SqT K H p xs/\IsKAll K H ds xs:=by
 cases h with
 |tup h1 h2=>exact⟨_,_,rfl,h1,h2⟩
theorem isK2 {a b:PyData}{v:V}(h:IsK K H (.tuple [a,b]) v):∃p x y,v=.ref p/\SqT K H p [x,y]/\IsK K H a x/\IsK K H b y:=by
 obtain⟨p,xs,rfl,hp,r⟩:=cR h;cases r with
 |cons h1 r=>cases r with
  |cons h2 r=>cases r;exact⟨p,_,_,rfl,hp,h1,h2⟩
theorem isK3 {a b c:PyData}{v:V}(h:IsK K H (.tuple [a,b,c]) v):∃p x y z,v=.ref p/\SqT K H p [x,y,z]/\IsK K H a x/\IsK K H b y/\IsK K H c z:=by
 obtain⟨p,xs,rfl,hp,r⟩:=cR h;cases r with
 |cons h1 r=>cases r with
  |cons h2 r=>cases r with
   |cons h3 r=>cases r;exact⟨p,_,_,_,rfl,hp,h1,h2,h3⟩
theorem isK6 {a b c d e f:PyData}{v:V}(h:IsK K H (.tuple [a,b,c,d,e,f]) v):∃p x0 x1 x2 x3 x4 x5,v=.ref p/\SqT K H p [x0,x1,x2,x3,x4,x5]/\IsK K H a x0/\IsK K H b x1/\IsK K H c x2/\IsK K H d x3/\IsK K H e x4/\IsK K H f x5:=by
 obtain⟨p,xs,rfl,hp,r⟩:=cR h;cases r with
 |cons h1 r=>cases r with
  |cons h2 r=>cases r with
   |cons h3 r=>cases r with
    |cons h4 r=>cases r with
     |cons h5 r=>cases r with
      |cons h6 r=>cases r;exact⟨p,_,_,_,_,_,_,rfl,hp,h1,h2,h3,h4,h5,h6⟩
theorem l6:∀{ss:List Tq}{xs:List V},IsKAll K H (ss.map st) xs->xs=ss.map λl=>V.str ⟨l.toArray⟩
 |[],_,h=>by cases h;rfl
 |s::ss,_,h=>by
  cases h with
  |cons h1 h2=>rw[da h1,l6 h2];rfl
theorem yc {r e:Bool}{ss:List Tq}{v:V}(h:IsK K H (.tuple [.bool r,.tuple (ss.map st),.bool e]) v):∃p q,v=.ref p/\SqT K H p [.bl r,.ref q,.bl e]/\SqT K H q (ss.map λl=>V.str ⟨l.toArray⟩):=by obtain⟨p,x,y,z,rfl,hp,h1,h2,h3⟩:=isK3 h;cases l5 h1;cases l5 h3;obtain⟨q,xs,rfl,hq,r⟩:=cR h2;cases l6 r;exact⟨p,q,rfl,hp,hq⟩
theorem yd {x:Ad}{v:V}(h:IsK K H x.data v):∃p w q,v=.ref p/\SqT K H p [.str ⟨x.scheme.toArray⟩,otV x.house,itV x.door,w,q,otV x.mark]/\IsK K H x.way w/\IsK K H (qD x.quest) q:=by obtain⟨p,x0,x1,x2,x3,x4,x5,rfl,hp,i0,i1,i2,i3,i4,i5⟩:=isK6 (show IsK K H (.tuple [st x.scheme,oD x.house,iD x.door,x.way,qD x.quest,oD x.mark]) v from h);cases da i0;cases gG i1;cases yb i2;cases gG i5;exact⟨p,x3,x4,rfl,hp,i3,i4⟩
end
end Wm
namespace L2
open PySem PySem.Spec PyProof.Rows
theorem Vals.at {xs:List V}{us:List Value}(h:Vals xs us):∀(i:Nat),(∃x u,xs[i]?=some x/\us[i]?=some u/\RelV x u)\/(xs[i]?=none/\us[i]?=none):=by
 induction h with
 |nil=>intro i;exact .inr ⟨by simp,by simp⟩
 |cons r _ ih=>
  intro i;cases i with
  |zero=>exact .inl ⟨_,_,rfl,rfl,r⟩
  |succ i=>simpa using ih i
theorem Vals.pick {xs:List V}{us:List Value}(h:Vals xs us):∀(l:Tq),Vals (l.filterMap λi=>xs[i]?) (l.filterMap λi=>us[i]?)
 |[]=>.nil
 |i::l=>by
  rcases h.at i with⟨x,u,h1,h2,r⟩|⟨h1,h2⟩
  .rw[List.filterMap_cons_some h1,List.filterMap_cons_some h2];exact .cons r (h.pick l)
  .rw[List.filterMap_cons_none h1,List.filterMap_cons_none h2];exact h.pick l
noncomputable def pickV {α:Type}(xs:List α)(lo hi st:Option Int):List α:=
 (sliceRange (sliceBounds lo hi st xs.length).1 (sliceBounds lo hi st xs.length).2.1 (sliceBounds lo hi st xs.length).2.2).filterMap λi=>xs[i]?
section
variable {X:Cx}
def tSl3 (K:W.Frag)(te:TE)(tl th ts:TO):TE:=λZ H Q=>te Z H λx H1=>tl Z H1 λl H2=>th Z H2 λu H3=>ts Z H3 λk H4=>
 ∃a xs,x=.ref a/\SqL K H4 a xs/\k≠some 0/\(pickV xs l u k).length<=sizeLine/\∀p,H4 p=none->Q (.ref p) (upd H4 p (.lst (pickV xs l u k)))
theorem ye {e:Expr}{lo hi:Option Expr}{st:Expr}{te:TE}{tl th ts:TO}{p2 pos:Pos}(he:PE X e te)(hl:PO X lo tl)(hu:PO X hi th)(hs:PO X (some st) ts):PE X (.Subscript e (.Slice lo hi (some st) p2) pos) (tSl3 X.K te tl th ts):=by
 intro dl s Z H Q I h;refine Subscript_ (thn (he dl s Z H _ I h) λv s1 W'=>?_);obtain⟨x,H1,I1,r1,q1⟩:=W';refine wpAny_Slice (thn (hl dl s1 Z H1 _ I1 q1) λvl s2 ⟨l,H2,I2,pl,q2⟩=>thn (hu dl s2 Z H2 _ I2 q2) λvu s3 ⟨u,H3,I3,pu,q3⟩=>thn (hs dl s3 Z H3 _ I3 q3) λvs s4 W'=>?_);obtain⟨k,H4,I4,ps,q4⟩:=W';have I5:Inv X dl Z H4 {s4 with heap:=s4.heap.push {cls:=.type "slice",data:=.fields #[vl,vu,vs]} }:=I4.kept (t':=s4.toks) λb ob q=>Heap.get?_push_of_some _ q;obtain⟨a,xs,rfl,hx,hk,hz,q⟩:=q4;cases r1;obtain⟨ld,r,ht,_⟩:=I5.list hx;have mt:=r.length;show wpAny (model X.prog X.w) X.A (subscriptTail e (.Slice lo hi (some st) p2) (.ref a) (.ref s4.heap.objs.size)) (EP X dl Z Q) X.xe {s4 with heap:=s4.heap.push {cls:=.type "slice",data:=.fields #[vl,vu,vs]} };refine tail_any (ops:=[.ref a,.ref s4.heap.objs.size]) ht.isList.typeIs slot_list_getitem.lookup ?_ (by with_unfolding_all rfl);refine wpAny_getItem_list_slice ht.isList (Heap.IsSliceOf.new ..) pl pu ps hk ?_ (by rw[size_toArray] <;> lia)
 have e:slicePick ld.toArray l u k=((sliceRange (sliceBounds l u k xs.length).1 (sliceBounds l u k xs.length).2.1 (sliceBounds l u k xs.length).2.2).filterMap λi=>ld[i]?).toArray:=by unfold slicePick;rw[size_toArray,<- mt];simp
 rw[e];refine⟨.ref _,_,I5.laid (t':=s4.toks) (o:=.lst (pickV xs l u k)) (λb ob q=>Heap.get?_push_of_some _ q) (Nat.le_refl _) ?_,rfl,q _ (I5.hok.fresh (Nat.le_refl _))⟩;exact⟨hz,_,0,r.pick _,Heap.get?_push_size _ rfl⟩
theorem yg {K:W.Frag}{e:Expr}{lo hi:Option Expr}{st:Expr}{te:TE}{tl th ts:TO}{p2 pos:Pos}(h:X.K=K)(he:PE X e te)(hl:PO X lo tl)(hu:PO X hi th)(hs:PO X (some st) ts):PE X (.Subscript e (.Slice lo hi (some st) p2) pos) (tSl3 K te tl th ts):=by subst h;exact ye he hl hu hs
end
theorem yh {K:W.Frag}{te:TE}{tl th ts:TO}{Z:St}{H:Hp}{Q:VK}:tSl3 K te tl th ts Z H Q↔te Z H λx H1=>tl Z H1 λl H2=>th Z H2 λu H3=>ts Z H3 λk H4=>
 ∃a xs,x=.ref a/\SqL K H4 a xs/\k≠some 0/\(pickV xs l u k).length<=sizeLine/\∀p,H4 p=none->Q (.ref p) (upd H4 p (.lst (pickV xs l u k))):=Iff.rfl
end L2
namespace Wm
open PySem L2
noncomputable abbrev Way:=Bool×List Stp×Bool
noncomputable def Ad.w (x:Ad):Way:=(x.rooted,x.steps,x.ends)
noncomputable def Ad.withWay (x:Ad)(w:Way):Ad:={ x with rooted:=w.1,steps:=w.2.1,ends:=w.2.2}
noncomputable def goneV (w:Way):Way:=goneW w.1 w.2.1 w.2.2
noncomputable def Ad.gone (x:Ad):Ad:=x.withWay (goneV x.w)
noncomputable def wayOf (w:Way):PyData:=.tuple [.bool w.1,.tuple (w.2.1.map st),.bool w.2.2]
noncomputable abbrev sV (l:Tq):V:=.str ⟨l.toArray⟩
theorem l7 {α:Type}{l:List α}{i:Nat}{a:α}(h:l[i]?=some a):l.drop i=a::l.drop (i+1):=by obtain⟨hi,e⟩:=List.getElem?_eq_some_iff.mp h;rw[<- e];exact drop_eq_getElem_cons hi
theorem yi {H:Hp}:∀(ss:List Tq),IsAll H (ss.map st) (ss.map sV)
 |[]=>.nil
 |s::ss=>.cons (.str _) (yi ss)
theorem db {H:Hp}:∀(ss:List Tq),IsTAll H (ss.map st) (ss.map sV)
 |[]=>.nil
 |s::ss=>.cons (.str _) (db ss)
theorem de (ds:List PyData):PyData.eqv (.list ds) (.list [])=ds.isEmpty:=by cases ds <;> simp[PyData.eqv,PyData.eqvAll]
theorem l8 {α:Type}{l:List α}{s:α}(g:α->V)(h:l.getLast?=some s):atI (l.map g) (-1)=some (g s):=by
 obtain⟨pre,rfl⟩:=List.getLast?_eq_some_iff.mp h;have e:ixN ((pre++[s]).map g).length (-1)=some pre.length:=by unfold ixN;simp;try lia
 unfold atI;rw[e];simp
theorem l9 (s:Stp):inV (sV s) [sV sStay,sV sUp]=isDot s:=by
 have e:∀a:Stp,eqV (sV a) (sV s)=decide (s=a):=λa=>by show ((⟨a.toArray⟩:Str) == ⟨s.toArray⟩)=decide (s=a);rw[Bool.eq_iff_iff,beq_iff_eq,decide_eq_true_eq,aR];exact⟨Eq.symm,Eq.symm⟩
 unfold inV isDot;simp only[any_cons,List.any_nil,Bool.or_false,e];rw[Bool.or_comm]
end Wm
namespace L2
open PySem
theorem gH {X:Cx}{K:W.Frag}(h:X.K=K):OpR X (compareOp .In) (rIn K false):=by subst h;exact uU
theorem yj {D:Ends}{Z:St}{H:Hp}:(tNever D Z H)=(False):=rfl
end L2
namespace Wm
open PySem L2
structure Ad.Tiny (x:Ad):Prop where
 stp:∀s∈x.steps,s.length<=9
 que:∀ps,x.quest=some ps->ps.length<=3/\∀p∈ps,p.1.length<=5/\∀v,p.2=some v->v.length<=6
 mar:∀l,x.mark=some l->l.length<=7
 hou:∀l,x.house=some l->l.length<=13
end Wm
namespace Wm
end Wm
namespace Wm
open PySem L2
noncomputable def cutA {α:Type}(xs:List α)(lo hi:Option Int):List α:=(xs.drop (HT.sIx xs.length 0 lo)).take (HT.sIx xs.length xs.length hi - HT.sIx xs.length 0 lo)
theorem yk {α:Type}(xs:List α){n:Nat}{i:Int}(h:HT.sIx xs.length xs.length (some i)=n):cutA xs none (some i)=xs.take n:=by unfold cutA;rw[h,show HT.sIx xs.length 0 none=0 from rfl,drop_zero,Nat.sub_zero]
theorem yl {α:Type}(xs:List α):cutA xs none (some (-1))=xs.dropLast:=by rw[yk (n:=xs.length - 1),List.dropLast_eq_take];show (if (-1:Int) < 0 then ((-1:Int)+(xs.length:Int)).toNat else min (-1:Int).toNat xs.length)=_;rw[if_pos (by decide)];lia
end Wm
namespace L2
open PySem
end L2
namespace Wm
open PySem L2
section
variable {H:Hp}
theorem ym {r e:Bool}{ss:List Tq}{v:V}(h:IsT H (.tuple [.bool r,.tuple (ss.map st),.bool e]) v):∃p q,v=.ref p/\H p=some (.tup [.bl r,.ref q,.bl e])/\H q=some (.tup (ss.map λl=>V.str ⟨l.toArray⟩)):=by obtain⟨p,x,y,z,rfl,hp,h1,h2,h3⟩:=isT3 h;cases kn h1;cases kn h3;obtain⟨q,xs,rfl,hq,r⟩:=bX h2;cases ko r;exact⟨p,q,rfl,hp,hq⟩
theorem wayT' {r e:Bool}{ss:List Tq}{p q:Addr}(hp:H p=some (.tup [.bl r,.ref q,.bl e]))(hq:H q=some (.tup (ss.map λl=>V.str ⟨l.toArray⟩))):IsT H (.tuple [.bool r,.tuple (ss.map st),.bool e]) (.ref p):=
 .tup hp (.cons (.bl _) (.cons (.tup hq (db _)) (.cons (.bl _) .nil)))
theorem gI {x:Ad}{v:V}(h:IsT H x.data v):∃p w q,v=.ref p/\H p=some (.tup [.str ⟨x.scheme.toArray⟩,otV x.house,itV x.door,w,q,otV x.mark])/\IsT H x.way w/\IsT H (qD x.quest) q:=by obtain⟨p,x0,x1,x2,x3,x4,x5,rfl,hp,i0,i1,i2,i3,i4,i5⟩:=isT6 (show IsT H (.tuple [st x.scheme,oD x.house,iD x.door,x.way,qD x.quest,oD x.mark]) v from h);cases gE i0;cases km i1;cases yT i2;cases km i5;exact⟨p,x3,x4,rfl,hp,i3,i4⟩
theorem adT {x:Ad}{p:Addr}{w q:V}(hp:H p=some (.tup [.str ⟨x.scheme.toArray⟩,otV x.house,itV x.door,w,q,otV x.mark]))(hw:IsT H x.way w)(hq:IsT H (qD x.quest) q):IsT H x.data (.ref p):=
 .tup hp (.cons (.str _) (.cons (dS _) (.cons (yI _) (.cons hw (.cons hq (.cons (dS _) .nil))))))
end
theorem Ad.Wf.local {x:Ad}(h:x.Wf):({x with scheme:=[],house:=none,door:=none}:Ad).Wf:=
 ⟨⟨Nat.zero_le _,(λc hc=>by cases hc),(λc hc=>by cases hc)⟩,(λl e=>by cases e),(λl e=>by cases e),h.stp,(λz=>z.elim (λy=>absurd rfl y) (λy=>absurd rfl y)),h.end_,h.que,h.mar⟩
def Goods (n:Nat)(H:Hp)(vs:List V):Prop:=∀v∈vs,∃x:Ad,x.Wf/\x.steps.length<=n/\IsT H x.data v
theorem Goods.cons {n:Nat}{H:Hp}{v:V}{vs:List V}{x:Ad}(h1:x.Wf)(h2:x.steps.length<=n)(h3:IsT H x.data v)(h:Goods n H vs):Goods n H (v::vs):=λu hu=>by
 rcases mem_cons.mp hu with rfl|hu
 .exact⟨x,h1,h2,h3⟩
 .exact h u hu
end Wm
namespace L2
open PySem PySem.Spec PyProof.Rows
end L2
namespace Wm
open PySem L2
structure GoodAd (n:Nat)(x:Ad):Prop where
 wf:x.Wf
 ti:x.Tiny
 sc:x.scheme≠[]
 ln:x.steps.length<=n
end Wm
namespace L2
open PySem PySem.Spec PyProof.Rows
section
variable {prog:Program}{w:World}{A:Around}{E:Value->Shared->Prop}{s:Shared}
end
section
variable {X:Cx}{tg:Expr}{K:W.Frag}
variable {Z:St}{H:Hp}{D:Ends}{g:TG}{tb:TS}{aa:TA}
end
theorem lA:fillsNumberSlot (.type "tuple") "mul"=pure false:=PySem.fillsNumberSlot_seq (id := "tuple.__mul__") (r:=some (.builtin "tuple.__rmul__")) F.slot_tuple_mul.lookup (by fail "k") F.slot_tuple_rmul.lookup (by fail "k")
theorem lB:seqRepeat? (.type "tuple")=pure (some (.builtin "tuple.__mul__")):=by unfold seqRepeat?;rw[PySem.seqSlot_of (T := "tuple") (name := "__mul__") (id := "tuple.__mul__") F.slot_tuple_mul.lookup (by fail "k"),PySem.seqSlot_of (T := "tuple") (name := "__rmul__") (id := "tuple.__rmul__") F.slot_tuple_rmul.lookup (by fail "k")];rfl
theorem lC (a:Int)(t:Tok)(l:Addr)(items:Array Value)(n:Nat)(dd:Option Addr)(sl:Array (Option Value)) :
  Meets (Builtin.«int.__rmul__» ⟨[.int a t,.ref l],[]⟩) (λ_ R s=>s.heap.get? l=some {cls:=.type "tuple",dict:=dd,data:=.seq items n,slots:=sl}/\R (.ok (.ret Value.notImplemented)) s):=
 .of_wp λprog w A R s h=>by
  obtain⟨hp,g,d,tk,os⟩:=s;obtain⟨hl,h⟩:=h
  wp_walk;exact⟨_,rfl,h⟩
theorem yn (l:Addr)(items:Array Value)(n:Nat)(dd:Option Addr)(sl:Array (Option Value))(x:Int)(u:Tok)(h0:items.isEmpty=false)(h1:¬ (decide (x < -(2 ^ 63)) || decide (x ≥ 2 ^ 63))=true)(h2:2<=x)(h3:¬ ((items.size:Int) * x > (2 ^ 63 - 1) / 8))(h4:(items.size:Int) * x<=sizeLine) :
  Meets (Builtin.«tuple.__mul__» ⟨[.ref l,.int x u],[]⟩) (λ_ R s=>s.heap.get? l=some {cls:=.type "tuple",dict:=dd,data:=.seq items n,slots:=sl}/\
   R (.ok (.ret (Value.ref s.heap.objs.size))) {s with heap:=s.heap.push {cls:=Value.type "tuple",data:=Data.seq (List.foldl (λx1 x2=>x1++x2) #[] (List.replicate x.toNat items))},toks:=s.toks}):=
 .of_wp λprog w A R s h=>by
  obtain⟨hp,g,d,tk,os⟩:=s;obtain⟨hl,h⟩:=h;unfold Builtin.«tuple.__mul__»
  wp_walk
  have hx1:¬ (items.isEmpty || x == 1)=true:=by rw[h0,Bool.false_or];intro z;have:=eq_of_beq z;lia
  have hx2:¬ (decide (x<=0) || items.isEmpty)=true:=by rw[h0,Bool.or_false,decide_eq_true_eq];lia
  have hx3:¬ Builtin.Tuple.tupleTooMany ((items.size:Int) * x)=true:=by unfold Builtin.Tuple.tupleTooMany;rw[decide_eq_true_eq];lia
  rw[if_neg h1]
  wp_walk
  rw[if_neg hx1];try dsimp only
  rw[if_neg hx2];try dsimp only
  rw[if_neg h3];try dsimp only
  rw[if_neg hx3];refine wpAny_bind (m:=Builtin.Tuple.tupleExact _) (wpAny_newObj_type (wpAny_pure ⟨_,rfl,h⟩) ?_);show (List.foldl (λx1 x2=>x1++x2) #[] (List.replicate x.toNat items)).size<=sizeLine;have e:List.foldl (λx1 x2=>x1++x2) #[] (List.replicate x.toNat items.toList.toArray)=(List.replicate x.toNat items.toList).flatten.toArray:=by have:=fZ items.toList x.toNat [];rw[nil_append] at this;exact this
  rw[show items.toList.toArray=items by simp] at e;rw[e,size_toArray,jo,Array.length_toList];have:(items.size:Int) * x=((x.toNat * items.size:Nat):Int):=by rw[Int.natCast_mul,Int.toNat_of_nonneg (by lia),Int.mul_comm]
  lia
section
variable {X:Cx}
def rRepT:R2:=λx y H Q=>∃a k xs,x=.ref a/\y=.int k/\H a=some (.tup xs)/\2<=k/\k < 1000/\xs.length * k.toNat<=sizeLine/\∀p H',Same H H'->H' p=some (.tup (List.replicate k.toNat xs).flatten)->Q (.ref p) H'
theorem lD (l:Addr)(items:Array Value)(n:Nat)(dd:Option Addr)(sl:Array (Option Value))(x:Int)(u:Tok)(h0:items.isEmpty=true)(h1:¬ (decide (x < -(2 ^ 63)) || decide (x ≥ 2 ^ 63))=true) :
  Meets (Builtin.«tuple.__mul__» ⟨[.ref l,.int x u],[]⟩) (λ_ R s=>s.heap.get? l=some {cls:=.type "tuple",dict:=dd,data:=.seq items n,slots:=sl}/\R (.ok (.ret (Value.ref l))) s):=
 .of_wp λprog w A R s h=>by
  obtain⟨hp,g,d,tk,os⟩:=s;obtain⟨hl,h⟩:=h;unfold Builtin.«tuple.__mul__»;have hx1:(items.isEmpty || x == 1)=true:=by rw[h0,Bool.true_or]
  wp_walk
  rw[if_neg h1]
  wp_walk
  exact⟨_,rfl,h⟩
theorem yo:OpR X (binaryOp .Mult) rRepT:=by
 intro BT s Z H x y v u Q I rx ry h;obtain⟨a,k,xs,rfl,rfl,hH,h1,h2,hz,q⟩:=h;cases rx;obtain⟨t,rfl⟩:=ry;obtain⟨dl,r,p,hl⟩:=I.tuple (SqT.of hH);obtain⟨⟨cls,dd,EX,sl⟩,ho,hc,n,hd⟩:=id p;simp only at hc hd;subst hc hd;have EW:=r.length;have hb:¬ (decide (k < -(2 ^ 63)) || decide (k ≥ 2 ^ 63))=true:=by rw[Bool.or_eq_true,decide_eq_true_eq,decide_eq_true_eq];lia
 have ld:((dl.toArray.size:Nat):Int) * k<=sizeLine:=by
  rw[size_toArray,<- EW];have:(xs.length:Int) * k=((xs.length * k.toNat:Nat):Int):=by rw[Int.natCast_mul,Int.toNat_of_nonneg (by lia)]
  lia
 refine wpAny_binaryOp_repeat_ref (T := "tuple") (U := "int") (by decide) p.typeIs (λs'=>typeIs_int s' k t) lA F.fills_int_mul F.slot_int_rmul lB F.slot_int_index.lookup
  (call_meets F.slot_int_rmul (typeIs_int s k t) F.entry_int_rmul (F.args_int_rmul_2 _ _) (lC k t a dl.toArray n dd sl) ⟨ho,rfl,p.typeIs,?_⟩)
 by_cases he:dl=[]
 .subst he;have Cl:xs=[]:=r.nil_iff.mp rfl;subst Cl;exact call_meets F.slot_tuple_mul p.typeIs F.entry_tuple_mul (F.args_tuple_mul_2 _ _) (lD a _ n dd sl k t rfl hb) ⟨ho,.ref a,H,I,rfl,q a H (Same.refl _) (by rw[hH];congr 2;exact (List.flatten_eq_nil_iff.mpr λl hl=>(List.mem_replicate.mp hl).2).symm)⟩
 .have h0:dl.toArray.isEmpty=false:=by simpa using he
  have mt:¬ (((dl.toArray.size:Nat):Int) * k > (2 ^ 63 - 1) / 8):=by
   have:(sizeLine:Int)<=(2 ^ 63 - 1) / 8:=by decide
   lia
  refine call_meets F.slot_tuple_mul p.typeIs F.entry_tuple_mul (F.args_tuple_mul_2 _ _) (yn a _ n dd sl k t h0 hb h1 mt ld) ⟨ho,?_⟩;have e:List.foldl (λx1 x2=>x1++x2) #[] (List.replicate k.toNat dl.toArray)=(List.replicate k.toNat dl).flatten.toArray:=by have:=fZ dl k.toNat [];rw[nil_append] at this;exact this
  rw[e];have hf:H s.heap.objs.size=none:=I.hok.fresh (Nat.le_refl _);refine⟨.ref s.heap.objs.size,_,I.laid (t':=s.toks) (o:=.tup (List.replicate k.toNat xs).flatten) (λb ob q=>Heap.get?_push_of_some _ q) (Nat.le_refl _) ?_,rfl,q _ _ (aN hf) aC⟩;exact⟨by rw[jo,Nat.mul_comm];exact hz,_,r.rep k.toNat,IsTup.new _ _⟩
end
theorem yp (l:Addr)(items:Array Value)(n:Nat)(dd:Option Addr)(sl:Array (Option Value))(u:Tok) :
  Meets (Builtin.«tuple.__mul__» ⟨[.ref l,.int 1 u],[]⟩) (λ_ R s=>s.heap.get? l=some {cls:=.type "tuple",dict:=dd,data:=.seq items n,slots:=sl}/\R (.ok (.ret (Value.ref l))) s):=
 .of_wp λprog w A R s h=>by
  obtain⟨hp,g,d,tk,os⟩:=s;obtain⟨hl,h⟩:=h;unfold Builtin.«tuple.__mul__»;have hx1:(items.isEmpty || ((1:Int) == 1))=true:=by simp
  have h1:¬ (decide ((1:Int) < -(2 ^ 63)) || decide ((1:Int) ≥ 2 ^ 63))=true:=by decide
  wp_walk
  first|rw[if_neg h1]|skip
  wp_walk
  first|rw[if_pos hx1]|skip
  wp_walk
  exact⟨_,rfl,h⟩
theorem yq (l:Addr)(items:Array Value)(n:Nat)(dd:Option Addr)(sl:Array (Option Value))(u:Tok)(h0:items.isEmpty=false) :
  Meets (Builtin.«tuple.__mul__» ⟨[.ref l,.int 0 u],[]⟩) (λ_ R s=>s.heap.get? l=some {cls:=.type "tuple",dict:=dd,data:=.seq items n,slots:=sl}/\
   R (.ok (.ret (Value.ref s.heap.objs.size))) {s with heap:=s.heap.push {cls:=Value.type "tuple",data:=Data.seq #[]},toks:=s.toks}):=
 .of_wp λprog w A R s h=>by
  obtain⟨hp,g,d,tk,os⟩:=s;obtain⟨hl,h⟩:=h;unfold Builtin.«tuple.__mul__»;have h1:¬ (decide ((0:Int) < -(2 ^ 63)) || decide ((0:Int) ≥ 2 ^ 63))=true:=by decide
  have hx1:¬ (items.isEmpty || ((0:Int) == 1))=true:=by rw[h0];decide
  have hx2:(decide ((0:Int)<=0) || items.isEmpty)=true:=by simp
  wp_walk
  first|rw[if_neg h1]|skip
  wp_walk
  first|rw[if_neg hx1]|skip
  try dsimp only
  first|rw[if_pos hx2]|skip
  exact⟨_,rfl,h⟩
section
variable {X:Cx}
def rRepN:R2:=λx y H Q=>∃a k xs,x=.ref a/\y=.int k/\H a=some (.tup xs)/\0<=k/\k < 1000/\xs.length * k.toNat<=sizeLine/\∀p H',Same H H'->H' p=some (.tup (List.replicate k.toNat xs).flatten)->Q (.ref p) H'
theorem yr:OpR X (binaryOp .Mult) rRepN:=by
 intro dl s Z H x y v u Q I rx ry h;obtain⟨a,k,xs,rfl,rfl,hH,h1,h2,hz,q⟩:=h;by_cases hk:2<=k
 .exact yo dl s Z H _ _ v u Q I rx ry ⟨a,k,xs,rfl,rfl,hH,hk,h2,hz,q⟩
 cases rx;obtain⟨t,rfl⟩:=ry;obtain⟨ld,r,p,hl⟩:=I.tuple (SqT.of hH);obtain⟨⟨cls,dd,Cl,sl⟩,ho,hc,n,hd⟩:=id p;simp only at hc hd;subst hc hd;refine wpAny_binaryOp_repeat_ref (T := "tuple") (U := "int") (by decide) p.typeIs (λs'=>typeIs_int s' k t) lA F.fills_int_mul F.slot_int_rmul lB F.slot_int_index.lookup
  (call_meets F.slot_int_rmul (typeIs_int s k t) F.entry_int_rmul (F.args_int_rmul_2 _ _) (lC k t a ld.toArray n dd sl) ⟨ho,rfl,p.typeIs,?_⟩)
 have BT:k=0\/k=1:=by lia
 rcases BT with rfl|rfl
 .by_cases he:ld=[]
  .subst he;have mt:xs=[]:=r.nil_iff.mp rfl;subst mt;exact call_meets F.slot_tuple_mul p.typeIs F.entry_tuple_mul (F.args_tuple_mul_2 _ _) (lD a _ n dd sl 0 t rfl (by decide)) ⟨ho,.ref a,H,I,rfl,q a H (Same.refl _) hH⟩
  .have h0:ld.toArray.isEmpty=false:=by simpa using he
   refine call_meets F.slot_tuple_mul p.typeIs F.entry_tuple_mul (F.args_tuple_mul_2 _ _) (yq a _ n dd sl t h0) ⟨ho,?_⟩;have hf:H s.heap.objs.size=none:=I.hok.fresh (Nat.le_refl _);refine⟨.ref s.heap.objs.size,_,I.laid (t':=s.toks) (o:=.tup []) (λb ob q=>Heap.get?_push_of_some _ q) (Nat.le_refl _) ?_,rfl,q _ _ (aN hf) aC⟩;exact⟨Nat.zero_le _,[],.nil,IsTup.new _ _⟩
 .exact call_meets F.slot_tuple_mul p.typeIs F.entry_tuple_mul (F.args_tuple_mul_2 _ _) (yp a _ n dd sl t) ⟨ho,.ref a,H,I,rfl,q a H (Same.refl _) (by rw[hH];simp)⟩
theorem yt {a:Addr}{k:Int}{H:Hp}{Q:VK}:rRepN (.ref a) (.int k) H Q↔∃xs,H a=some (.tup xs)/\0<=k/\k < 1000/\xs.length * k.toNat<=sizeLine/\∀p H',Same H H'->H' p=some (.tup (List.replicate k.toNat xs).flatten)->Q (.ref p) H':=by
 constructor
 .rintro⟨a',k',xs,h1,h2,h⟩;cases h1;cases h2;exact⟨xs,h⟩
 .rintro⟨xs,h⟩;exact⟨a,k,xs,rfl,rfl,h⟩
end
section
variable {X:Cx}
end
end L2
namespace L2
open PySem
section
variable {p:Addr}{fv:St}{tt:TT}{te:TE}{Q:VK}{H1:Hp}{K:W.Frag}
end
end L2
namespace L2
open PySem PySem.Spec PyProof.Rows
section
variable {X:Cx}{pins:List (Addr×Obj)}{Z:St}{H1:Hp}{s3:Shared}{x x2:Str}{fx:List Str}{fr:Tq}{scope:Scope}{cl:List (Str×Addr)}{fp:List Addr}
end
def CompI2 (K:W.Frag)(J:It)(p:Addr)(fv:St)(tt:TT)(te:TE)(Q:VK)(H1:Hp):Prop:=
 ∃W:Nat->Nat->List V->Hp->Prop,(∃m,W 0 m [] (upd H1 p (.lst [])))/\∀i m ys H2,W i m ys H2->H2 p=some (.lst ys)/\
  ((J.stop i H2/\Q (.ref p) H2)\/(J.go i H2/\ys.length < sizeLine/\∀z H3,J.yld i H2 z H3->∃a x y,z=.ref a/\SqT K H3 a [x,y]/\tt (some x::some y::fv) H3 λb H4=>
   if b=true then te (some x::some y::fv) H4 λy H5=>H5 p=some (.lst ys)/\∃m',m' < m/\W (i+1) m' (ys++[y]) (upd H5 p (.lst (ys++[y])))
   else ∃m',m' < m/\W (i+1) m' ys H4))
def tComp2 (K:W.Frag)(wi:TI)(fr:Tq)(tt:TT)(te:TE):TE:=λZ H Q=>wi Z H λJ H1=>∀p,H1 p=none->CompI2 K J p (frV Z fr) tt te Q H1
section
variable {X:Cx}{elt iter:Expr}{x x2:Str}{px px2 ptx pos:Pos}{kx:Nat}{ifs:List Expr}{scope:Scope}{cl:List (Str×Addr)}{fx:List Str}{fr:Tq}{wi:TI}{tt:TT}{te:TE}
end
section
variable {p:Addr}{fv:St}{te:TE}{Q:VK}{H1:Hp}{K:W.Frag}
theorem yu {a:Addr}{xs zs:List V}{f:Nat->V×V}(hxs:SqT K H1 a xs)(hlen:xs.length<=sizeLine)(hp:H1 p=none)(hz:zs.length=xs.length)
  (hit:∀(i:Nat) (x:V) (H':Hp),xs[i]?=some x->Same H1 H'->∃b,x=.ref b/\SqT K H' b [(f i).1,(f i).2])
  (he:∀(i:Nat) (z:V),i < xs.length->zs[i]?=some z->∀(H':Hp) (T:VK),Same H1 H'->(∀H'',Same H' H''->T z H'')->te (some (f i).1::some (f i).2::fv) H' T)
  (hQ:∀H',Same H1 H'->H' p=some (.lst zs)->Q (.ref p) H'):CompI2 K (Itt K a) p fv tYes te Q H1:=by
 refine⟨λi m ys H2=>m=xs.length - i/\i<=xs.length/\ys=zs.take i/\H2 p=some (.lst ys)/\Same H1 H2,⟨xs.length,by simp,Nat.zero_le _,by simp,aC,λb o e=>by rw[aE (aJ e hp)];exact e⟩,?_⟩;rintro i m ys H2 ⟨rfl,hi,rfl,ld,sm⟩;refine⟨ld,?_⟩;have q:=sm.tup hxs;by_cases dl:i < xs.length
 .refine .inr ⟨⟨xs,xs[i],q,by simp[dl]⟩,?_,λx H3 y=>?_⟩
  .rw[length_take];lia
  .obtain⟨rfl,y⟩:=y;have hc:=y xs q;obtain⟨b,rfl,hb⟩:=hit i x H3 hc sm;refine⟨b,_,_,rfl,hb,?_⟩;unfold tYes;dsimp only;rw[if_pos rfl];have mt:zs[i]?=some zs[i]:=by simp[hz,dl]
   refine he i _ dl mt _ _ sm λH5 s5=>⟨s5 _ _ ld,xs.length - (i+1),by lia,rfl,dl,?_,aC,λb o e=>?_⟩
   .rw[take_add_one,mt];rfl
   .rw[aE (aJ e hp)];exact s5 _ _ (sm _ _ e)
 .have e:i=xs.length:=by lia
  subst e;refine .inl ⟨⟨xs,q,Nat.le_refl _⟩,hQ H2 sm ?_⟩;rw[ld,<- hz,take_length]
theorem yv {tl:TE}{tt:TT}{fr:Tq}{Z:St}{H:Hp}:(tComp2 K (iTup K tl) fr tt te Z H Q)=(tl Z H λx H1=>∃a,x=.ref a/\(∃xs,SqT K H1 a xs)/\∀p,H1 p=none->CompI2 K (Itt K a) p (frV Z fr) tt te Q H1):=rfl
end
section
variable {X:Cx}
end
end L2
namespace Wm
open PySem L2
theorem yw (s:Stp)(L:List Stp):inV (sV s) (L.map sV)=decide (s∈L):=by
 have e:∀a:Stp,eqV (sV a) (sV s)=decide (s=a):=λa=>by show ((⟨a.toArray⟩:Str) == ⟨s.toArray⟩)=decide (s=a);rw[Bool.eq_iff_iff,beq_iff_eq,decide_eq_true_eq,aR];exact⟨Eq.symm,Eq.symm⟩
 unfold inV;rw[Bool.eq_iff_iff,decide_eq_true_eq,List.any_eq_true];constructor
 .rintro⟨x,hx,h⟩;obtain⟨a,ha,rfl⟩:=mem_map.mp hx;rw[e,decide_eq_true_eq] at h;rw[h];exact ha
 .intro h;exact⟨sV s,mem_map.mpr ⟨s,h,rfl⟩,by rw[e];simp⟩
end Wm
namespace Wm
end Wm
namespace L2
open PySem
end L2
namespace L2
open PySem PySem.Spec PySem.W PyProof.Rows
noncomputable abbrev vErr:List Value:=[.type "ValueError",.type "Exception",.type "BaseException",.type "object"]
noncomputable abbrev vNew:String := "ValueError.__new__"
noncomputable def clsIs (d:Data)(f:ClassData->Bool):Bool:=match d with
 |.cls c=>f c
 |_=>false
noncomputable def excInJ (K:Frag)(C:Addr)(bmB:List Value)(newId:String)(v:Option Value):Bool:=match K.lookup C with
 |some o=>o.cls == .type "type" && clsIs o.data λcd=>cd.mro == .ref C::cd.mro.tail && (o.slots == #[o.slots.getD 0 none,o.slots.getD 1 none,o.slots.getD 2 none,o.slots.getD 3 none,some (.builtin newId),o.slots.getD 5 none] && (!cd.hasDel && (tailIn K bmB cd.mro.tail && (nsOkIn K cd.ns && nsIn K cd.ns "__init__" == some v))))
 |_=>false
structure Flown (P:Program)(w:World)(base:Heap)(outer:List Env)(H:Hp)(s:Shared)(a t C:Addr)(B:Heap)(H':Hp)(s':Shared):Prop where
 os:s'.os=s.os
 bare:AllBare s'.gens
 st:base.StaysIn B
 fly:Heap.FlyingW B outer a (.ref C) (.ref t) s'.heap
 hok:HOk P w H' B
 un:Un (frs outer) [] H H' s.heap s'.heap
 kb:∀b o,s.heap.get? b=some o->H b=none->b∉frs outer->B.get? b=some o
 thB:∀b o,s.heap.get? b=some o->b∉frs outer->∃o',B.get? b=some o'
section
variable {P:Program}{w:World}{K:Frag}{mg:Str->Option Value}{base:Heap}{N:List Str}{qual:Str}{scope:Scope}{f:Addr}{cd:Value}{A:Around}{outer:List Env}{s:Shared}{H:Hp}{E:XK}
end
section
variable {X:Cx}{pins:List (Addr×Obj)}{Z:St}{H H1 H2:Hp}{s s1 s2:Shared}
end
structure Catch (K:Frag)(W:Addr):Prop where
 ty:typeIn K (.ref W)=some (.type "type")
 ex:subIn K (.ref W) (.type "BaseException")=some true
 cl:(clsIn K W).isSome=true
end L2
namespace L2
open PySem PySem.Spec PySem.W PySem.Calls PyProof.Rows PySem.Builtin PySem.Builtin.ObjectAttr PySem.Builtin.Getset_descriptor
structure ExLook (K:Frag)(C:Addr):Prop where
 ga:findIn K (.ref C) "__getattribute__"=some (some (.builtin "BaseException.__getattribute__"))
 cl:findIn K (.ref C) "__class__"=some (some (.builtin "object.__class__"))
 na:findIn K (.ref C) "__getattr__"=some none
 mo:mroIn K C (.type "object")=some true
 mb:mroIn K C (.type "BaseException")=some true
 is:(clsIn K C).isSome=true
section
variable {prog:Program}{w:World}{A:Around}{E:Value->Shared->Prop}{hh:Heap}{g:Array GenState}{dr:Drawn}{t:Nat}{os:OsState}{K:Frag}{a C:Addr}{o:Obj}
end
inductive KitAns (K:Frag)(H:Hp)(C:Addr):V->Bool->Prop
 |cls {W:Addr}{b:Bool}:kitOne K (.ref C) (.ref W)=some b->KitAns K H C (.ref W) b
 |ty {T:String}{b:Bool}:kitOne K (.ref C) (.type T)=some b->KitAns K H C (.ty T) b
 |tup {p:Addr}{cs:List Addr}{b:Bool}:H p=some (.tup (cs.map V.ref))->kitAny K (.ref C) (cs.map Value.ref)=some b->KitAns K H C (.ref p) b
end L2
namespace L2
open PySem PySem.W
end L2
namespace L2
open PySem PySem.Spec PyProof.Rows
theorem sw3 (x y:Str)(t u:Tok)(i:Nat)(v:Tok) :
  Meets (Builtin.«str.startswith» ⟨[.str x t,.str y u,.int (i:Int) v],[]⟩) (λ_ R s=>R (.ok (.ret (.bool (decide (i+y.length<=x.length) && Builtin.Str.subAt x y i)))) s):=
 .of_wp λprog w A R s h=>by
  obtain⟨hp,g,d,tk,os⟩:=s;unfold Builtin.«str.startswith»
  wp_walk
  rw[F.slot_int_index.lookup]
  wp_walk
  refine⟨_,rfl,?_⟩;have e1:(max (0:Int) (if (i:Int) < 0 then (i:Int)+(x.length:Int) else (i:Int))).toNat=i:=by rw[if_neg (by lia)];lia
  have e2:min ((x.length:Nat):Int).toNat x.length=x.length:=by lia
  dsimp only;rw[e1,e2];exact h
section
variable {X:Cx}
def rStarts:V->List V->Hp->VK->Prop:=λx vs H Q=>∃z y,∃i:Nat,x=.str z/\vs=[.str y,.int (i:Int)]/\Q (.bl (decide (i+y.length<=z.length) && Builtin.Str.subAt z y i)) H
theorem yx:MtR X "str.startswith" rStarts:=by intro dl s Z H x vs v us Q I rx rv h;obtain⟨z,y,i,rfl,rfl,q⟩:=h;obtain⟨t,rfl⟩:=rx;obtain⟨u1,u2,rfl,r1,r2⟩:=vals2 rv;obtain⟨t1,rfl⟩:=r1;obtain⟨t2,rfl⟩:=r2;exact call_meets F.slot_str_startswith (typeIs_str _ _ _) F.entry_str_startswith (F.args_str_startswith_3 _ _ _) (sw3 z y t t1 i t2) ⟨.bl _,H,I,rfl,q⟩
end
section
variable {X:Cx}
def rPart:V->List V->Hp->VK->Prop:=λx vs H Q=>∃z y,x=.str z/\vs=[.str y]/\(y.length == 0)=false/\z.length<=sizeLine/\
 ∀p,H p=none->Q (.ref p) (upd H p (.tup [.str (Txt.partition z y).1,.str (Txt.partition z y).2.1,.str (Txt.partition z y).2.2]))
theorem df:MtR X "str.partition" rPart:=by
 intro dl s Z H x vs v us Q I rx rv h;obtain⟨z,y,rfl,rfl,hy,hz,q⟩:=h;obtain⟨t,rfl⟩:=rx;obtain⟨u,rfl,t',rfl⟩:=vals1 rv;have hf:H s.heap.objs.size=none:=I.hok.fresh (Nat.le_refl _);have q:=q _ hf;refine call_meets F.slot_str_partition (typeIs_str _ _ _) F.entry_str_partition (F.args_str_partition_2 _ _) (meets_str_partition z y t t' hy hz) ?_;unfold Txt.partition at q;revert q;cases Builtin.Str.occurrences z y 0 z.length 1 with
 |nil=>intro q;refine⟨.ref s.heap.objs.size,_,I.laid (t':=s.toks+1) (o:=.tup _) (λb u e=>Heap.get?_push_of_some _ e) (by lia) ?_,rfl,q⟩;exact⟨by show 3<=sizeLine;decide,_,.cons ⟨_,rfl⟩ (.cons ⟨_,rfl⟩ (.cons ⟨_,rfl⟩ .nil)),IsTup.new _ _⟩
 |cons i r=>intro q;refine⟨.ref s.heap.objs.size,_,I.laid (t':=s.toks+1+1) (o:=.tup _) (λb u e=>Heap.get?_push_of_some _ e) (by lia) ?_,rfl,q⟩;exact⟨by show 3<=sizeLine;decide,_,.cons ⟨_,rfl⟩ (.cons ⟨_,rfl⟩ (.cons ⟨_,rfl⟩ .nil)),IsTup.new _ _⟩
end
theorem lE {us:List Value}{d:Value}(h:(us++[d]).length=3):∃x y,us=[x,y]:=by
 match us,h with
 |[x,y],_=>exact⟨x,y,rfl⟩
 |[],h=>simp at h
 |[_],h=>simp at h
 |_::_::_::_,h=>simp at h
section
variable {X:Cx}
def rIntS:List V->Hp->VK->Prop:=λxs H Q=>∃z n,xs=[.str z]/\z.length<=640/\PySem.intText? z=some n/\Q (.int n) H
theorem gJ:CallR X (.type "int") rIntS:=by intro pins s Z H xs us Q I r h;obtain⟨z,n,rfl,hz,hn,q⟩:=h;obtain⟨u,rfl,t,rfl⟩:=vals1 r;exact PySem.W.KIN.call_text hn hz ⟨.int n,H,I.tok _,⟨_,rfl⟩,q⟩
theorem yy {z:Str}{H:Hp}{Q:VK}:rIntS [.str z] H Q↔∃n,z.length<=640/\PySem.intText? z=some n/\Q (.int n) H:=
 ⟨λ⟨_,n,e,h⟩=>by cases e;exact⟨n,h⟩,λ⟨n,h⟩=>⟨z,n,rfl,h⟩⟩
theorem yz {z y:Str}{i:Nat}{H:Hp}{Q:VK}:rStarts (.str z) [.str y,.int (i:Int)] H Q↔Q (.bl (decide (i+y.length<=z.length) && Builtin.Str.subAt z y i)) H:=
 ⟨λ⟨_,_,j,e1,e2,h⟩=>by
  cases e1;injection e2 with e2 e3;cases e2;injection e3 with e3;injection e3 with e3;obtain rfl:i=j:=by lia
  exact h,λh=>⟨z,y,i,rfl,rfl,h⟩⟩
theorem lF {z y:Str}{H:Hp}{Q:VK}:rPart (.str z) [.str y] H Q↔(y.length == 0)=false/\z.length<=sizeLine/\∀p,H p=none->Q (.ref p) (upd H p (.tup [.str (Txt.partition z y).1,.str (Txt.partition z y).2.1,.str (Txt.partition z y).2.2])):=
 ⟨λ⟨_,_,e1,e2,h⟩=>by cases e1;cases e2;exact h,λh=>⟨z,y,rfl,rfl,h⟩⟩
theorem z5 {K:W.Frag}{ta:TE}{f:Str}{Z:St}{H:Hp}{Q:VK}:(tFld K ta f Z H Q)=(ta Z H λx H1=>∃a C dx fs v,x=.ref a/\H1 a=some (.ins C dx fs)/\Cls K C/\NoAttr K C f/\fs.lookup f=some v/\Q v H1):=rfl
theorem z6 {K:W.Frag}{ta tv:TE}{f:Str}{D:Ends}{Z:St}{H:Hp}:(sFld K ta tv f D Z H)=(tv Z H λy H1=>ta Z H1 λx H2=>∃a C dx fs,x=.ref a/\H2 a=some (.ins C dx fs)/\Cls K C/\NoAttr K C f/\fs.length < 1000/\D.nx Z (upd H2 a (.ins C dx (putF f y fs)))):=rfl
theorem z7 {C:Addr}{m:Str}{sp:Sp}{dvs:List V}{E:XK}{ta:TE}{t:TA}{Z:St}{H:Hp}{Q:VK}:(tMeth C m sp dvs E ta t Z H Q)=(ta Z H λx H1=>∃a dx fs,x=.ref a/\H1 a=some (.ins C dx fs)/\fs.lookup m=none/\t Z H1 λvs H2=>sp (x::(vs++dvs)) H2 Q E):=rfl
theorem z8 {C:Addr}{sp:Sp}{dvs:List V}{E:XK}{t:TA}{Z:St}{H:Hp}{Q:VK}:(tMake C sp dvs E t Z H Q)=(t Z H λvs H1=>∀x dx,H1 x=none->H1 dx=none->dx≠x->sp (.ref x::(vs++dvs)) (upd (upd H1 dx (.own x)) x (.ins C dx [])) (λv H2=>v=.non/\Q (.ref x) H2) E):=rfl
end
end L2
namespace Wm
open PySem L2
theorem gK (t w:Tq)(i:Nat)(hi:i<=t.length):(decide (i+(⟨w.toArray⟩:Str).length<=(⟨t.toArray⟩:Str).length) && Builtin.Str.subAt ⟨t.toArray⟩ ⟨w.toArray⟩ i)=decide ((t.drop i).take w.length=w):=by
 rw[aG,aG];have e:Builtin.Str.subAt ⟨t.toArray⟩ ⟨w.toArray⟩ i=decide ((t.drop i).take w.length=w):=by unfold Builtin.Str.subAt;rw[aG,Bool.eq_iff_iff,beq_iff_eq,decide_eq_true_eq];show (t.toArray.extract i (i+w.length)=w.toArray)↔_;rw[<- Array.toList_inj];simp
 rw[e];by_cases h:(t.drop i).take w.length=w
 .have hl:=congrArg List.length h;rw[length_take,length_drop] at hl;rw[decide_eq_true h,Bool.and_true];by_cases hw:w.length=0
  .rw[hw,Nat.add_zero];exact decide_eq_true hi
  .exact decide_eq_true (by lia)
 .rw[decide_eq_false h,Bool.and_false]
theorem occ1 (x y:Str):∀(l:Tq) (free:Nat),(∀i∈l,free<=i) ->
  (forIn l ((#[]:Array Nat),free) (StrLaws.occBody x y x.length 1)).run.fst.toList=(l.find? λi=>decide (i+y.length<=x.length) && Builtin.Str.subAt x y i).toList
 |[],free,_=>rfl
 |a::l,free,hf=>by
  rw[forIn_cons,List.find?_cons];have ha:free<=a:=hf a (mem_cons_self ..);by_cases hc:a+y.length<=x.length/\Builtin.Str.subAt x y a=true
  .have e:(decide (a+y.length<=x.length) && Builtin.Str.subAt x y a)=true:=by rw[decide_eq_true hc.1,hc.2];rfl
   rw[e];unfold StrLaws.occBody;rw[if_pos ⟨⟨⟨by simp,ha⟩,hc.1⟩,hc.2⟩];have full:∀(l:Tq) (st:Array Nat×Nat),st.1.size=1->(forIn l st (StrLaws.occBody x y x.length 1)).run.fst=st.1:=by
    intro l;induction l with
    |nil=>intro st _;rfl
    |cons b l ih=>intro st hs;rw[forIn_cons];unfold StrLaws.occBody;rw[if_neg (λh=>by have:=h.1.1.1;lia)];exact ih st hs
   show (forIn l ((#[]:Array Nat).push a,a+y.length) (StrLaws.occBody x y x.length 1)).run.fst.toList=_;rw[full l _ (by simp)];simp
  .have e:(decide (a+y.length<=x.length) && Builtin.Str.subAt x y a)=false:=by
    cases h1:Builtin.Str.subAt x y a with
    |false=>rw[Bool.and_false]
    |true=>rw[Bool.and_true];exact decide_eq_false λz=>hc ⟨z,h1⟩
   rw[e];unfold StrLaws.occBody;rw[if_neg (λh=>hc ⟨h.1.2,h.2⟩)];exact occ1 x y l free λi hi=>hf i (mem_cons_of_mem _ hi)
noncomputable def ahead (t:Tq):Tq:=t.takeWhile λc=>decide (c≠58)
theorem zF (t:Tq)(i:Nat):(decide (i+(⟨[58].toArray⟩:Str).length<=(⟨t.toArray⟩:Str).length) && Builtin.Str.subAt ⟨t.toArray⟩ ⟨[58].toArray⟩ i)=decide (t[i]?=some 58):=by
 by_cases hi:i<=t.length
 .rw[gK t [58] i hi,decide_eq_decide];cases h:t.drop i with
  |nil=>have:t[i]?=none:=List.getElem?_eq_none (by have:=congrArg List.length h;rw[length_drop,length_nil] at this;lia);rw[this];simp
  |cons c r=>
   have:t[i]?=some c:=by rw[<- List.head?_drop,h];rfl
   rw[this];simp
 .rw[List.getElem?_eq_none (by lia),aG,aG,decide_eq_false (by rw[length_singleton];lia)];rfl
theorem zG (t:Tq):∀(k:Nat),k<=t.length->(t.take k).all (λc=>decide (c≠58))=true ->
  ((List.range' k (t.length+1 - k)).find? λi=>decide (t[i]?=some 58))=if 58∈t then some (ahead t).length else none:=by
 intro k;induction hn:t.length - k generalizing k with
 |zero=>
  intro hk ha;have e:k=t.length:=by lia
  subst e;rw[take_length] at ha;have mt:58∉t:=λh=>by have:=all_eq_true.mp ha 58 h;simp at this
  rw[if_neg mt,show t.length+1 - t.length=1 by lia];simp
 |succ n ih=>
  intro hk ha;have ld:k < t.length:=by lia
  have hc:t[k]?=some t[k]:=List.getElem?_eq_getElem ld;rw[show t.length+1 - k=(t.length+1 - (k+1))+1 by lia,List.range'_succ,List.find?_cons,hc];by_cases dl:t[k]=58
  .rw[dl];simp only[decide_true];rw[if_pos (by rw[<- dl];exact getElem_mem ld)]
   congr 1
   have ht:t=t.take k++58::t.drop (k+1):=by rw[<- dl,List.getElem_cons_drop,take_append_drop]
   unfold ahead;rw[ht,List.takeWhile_append_of_pos (λc BT=>all_eq_true.mp ha c BT),List.takeWhile_cons_of_neg (by simp)];simp;lia
  .rw[show decide (some t[k]=some 58)=false from decide_eq_false (by simpa using dl)];refine ih (k+1) (by lia) (by lia) ?_;rw[take_add_one,hc,all_append,ha];simpa using dl
theorem zH (t:Tq):(Txt.partition ⟨t.toArray⟩ ⟨[58].toArray⟩).1=⟨(ahead t).toArray⟩:=by
 have e:Builtin.Str.occurrences (⟨t.toArray⟩:Str) ⟨[58].toArray⟩ 0 (⟨t.toArray⟩:Str).length 1=(if 58∈t then some (ahead t).length else none).toList:=by rw[StrLaws.occ_eq,occ1 _ _ _ _ (λi _=>Nat.zero_le i)];simp only[zF];rw[aG];exact congrArg Option.toList (zG t 0 (Nat.zero_le _) rfl)
 unfold Txt.partition;rw[e];by_cases h:58∈t
 .rw[if_pos h];show Builtin.Str.strSub ⟨t.toArray⟩ 0 (ahead t).length=_;unfold Builtin.Str.strSub;have hp:t.take (ahead t).length=ahead t:=(List.prefix_iff_eq_take.mp (List.takeWhile_prefix _)).symm;rw[<- hp,length_take];have:(ahead t).length<=t.length:=(List.takeWhile_prefix _).length_le;rw[show min (ahead t).length t.length=(ahead t).length by lia];show (⟨t.toArray.extract 0 (ahead t).length⟩:Str)=_;simp
 .rw[if_neg h];have dl:∀l:Tq,58∉l->ahead l=l:=λl=>by
   induction l with
   |nil=>intro _;rfl
   |cons c l ih=>intro hl;have h1:c≠58:=λz=>hl (by rw[z];exact mem_cons_self ..);unfold ahead;rw[List.takeWhile_cons,if_pos (decide_eq_true h1)];exact congrArg (c::·) (ih λz=>hl (mem_cons_of_mem _ z))
  have:ahead t=t:=dl t h;rw[this];rfl
def Cur (H:Hp)(C p:Addr)(t:Tq)(k:Nat):Prop:=∃dx,H p=some (.ins C dx [("text",.str ⟨t.toArray⟩),("place",.int (k:Int))])
inductive WrT (fr:Tq):Tq->Tq->Prop
 |nil:WrT fr [] []
 |self {c:Nat}{s w:Tq}:(isPl c=true\/c∈fr)->c≠126->WrT fr s w->WrT fr (c::s) (c::w)
 |pair {c a b:Nat}{s w:Tq}:sgO a b=some c->WrT fr s w->WrT fr (c::s) (126::a::b::w)
def Stops (fr r:Tq):Prop:=∀c,r.head?=some c->isPl c=false/\c∉fr/\c≠126
noncomputable def moV:Option Nat->V
 |none=>.non
 |some m=>.int (m:Int)
theorem lG {fr s w s' w':Tq}(h:WrT fr s w)(h':WrT fr s' w'):WrT fr (s++s') (w++w'):=by
 induction h with
 |nil=>exact h'
 |self a b _ ih=>exact .self a b ih
 |pair a _ ih=>exact .pair a ih
theorem bY {fr s:Tq}(h:∀c∈s,isSg c=true):WrT fr s (wr s):=by
 induction s with
 |nil=>exact .nil
 |cons c s ih=>
  have hc:=h c (mem_cons_self ..);have ih:=ih λd hd=>h d (mem_cons_of_mem _ hd);show WrT fr (c::s) (wr1 c++wr s);unfold wr1;by_cases hp:isPl c=true
  .rw[if_pos hp];exact .self (.inl hp) (λz=>by rw[z] at hp;cases hp) ih
  .rw[if_neg hp];exact .pair (kO hc) ih
theorem lH {a n:Nat}(h:fig a=some n):a < 128/\n < 16/\(n < 10->a=48+n):=by
 unfold fig at h;split at h
 .cases h;lia
 .split at h
  .cases h;lia
  .split at h
   .cases h;lia
   .cases h
theorem gL {a b c:Nat}(h:sgO a b=some c):a∈(ofString "234567").cps.toList/\a < 128/\b < 128/\isSg c=true:=by
 unfold sgO at h;cases ha:fig a with
 |none=>simp[ha] at h
 |some n=>
  cases hb:fig b with
  |none=>simp[ha,hb] at h
  |some m=>
   simp only[ha,hb] at h;split at h
   .next hs=>
    cases h;obtain⟨a1,a2,a3⟩:=lH ha;obtain⟨b1,b2,_⟩:=lH hb;have hr:=hs;simp only[isSg,Bool.and_eq_true,decide_eq_true_eq] at hr;have e:=a3 (by lia);refine⟨?_,a1,b1,hs⟩;have dl:∀n,n < 8->2<=n->48+n∈(ofString "234567").cps.toList:=by fail "k"
    rw[e];exact dl n (by lia) (by lia)
   .cases h
section
variable {K:W.Frag}{H:Hp}{C p:Addr}{t:Tq}{i:Nat}
theorem zI {v u:V}:List.lookup (ofString "text") [(ofString "text",v),(ofString "place",u)]=some v:=by rw[lookup_cons,beq_self_eq_true]
theorem zJ {v u:V}:List.lookup (ofString "place") [(ofString "text",v),(ofString "place",u)]=some u:=by rw[lookup_cons,show (ofString "place" == ofString "text")=false by fail "k",lookup_cons,beq_self_eq_true]
theorem bZ {R:V->Prop}(h:Cur H C p t i)(cl:Cls K C)(n:NoAttr K C "text")(r:R (.str ⟨t.toArray⟩)):∃a C dx fs v,p=a/\H a=some (.ins C dx fs)/\Cls K C/\NoAttr K C (ofString "text")/\List.lookup (ofString "text") fs=some v/\R v:=
 let ⟨dx,hp⟩:=h
 ⟨p,C,dx,_,_,rfl,hp,cl,n,zI,r⟩
theorem bG {R:V->Prop}(h:Cur H C p t i)(cl:Cls K C)(n:NoAttr K C "place")(r:R (.int (i:Int))):∃a C dx fs v,p=a/\H a=some (.ins C dx fs)/\Cls K C/\NoAttr K C (ofString "place")/\List.lookup (ofString "place") fs=some v/\R v:=
 let ⟨dx,hp⟩:=h
 ⟨p,C,dx,_,_,rfl,hp,cl,n,zJ,r⟩
theorem zK {v u w:V}:putF (ofString "place") w [(ofString "text",v),(ofString "place",u)]=[(ofString "text",v),(ofString "place",w)]:=by
 have h:ofString "text" ≠ ofString "place" := by fail "k"
 simp only[putF,if_neg h,if_true]
theorem lI {N:Hp->Prop}{z:Int}(h:Cur H C p t i)(cl:Cls K C)(n:NoAttr K C "place")(j:Nat)(hz:z=(j:Int))(hN:∀H',SameBut p H H'->Cur H' C p t j->N H') :
  ∃a C dx fs,p=a/\H a=some (.ins C dx fs)/\Cls K C/\NoAttr K C (ofString "place")/\fs.length < 1000/\N (upd H a (.ins C dx (putF (ofString "place") (.int z) fs))):=by
 obtain⟨dx,hp⟩:=h;refine⟨p,C,dx,_,rfl,hp,cl,n,by show 2 < 1000;decide,?_⟩;rw[zK,hz];exact hN _ dP ⟨dx,aC⟩
theorem zL {m:Str}{v u:V}(h1:(m == ofString "text")=false)(h2:(m == ofString "place")=false):List.lookup m [(ofString "text",v),(ofString "place",u)]=none:=by rw[lookup_cons,h1,lookup_cons,h2];rfl
theorem aL {R:Prop}{m:Str}(h:Cur H C p t i)(r:R)(h1:(m == ofString "text")=false:=by fail "k")(h2:(m == ofString "place")=false:=by fail "k") :
  ∃a dx fs,p=a/\H a=some (.ins C dx fs)/\List.lookup m fs=none/\R:=
 let ⟨dx,hp⟩:=h
 ⟨p,dx,_,rfl,hp,zL h1 h2,r⟩
theorem Cur.same {H':Hp}(h:Cur H C p t i)(s:Same H H'):Cur H' C p t i:=let ⟨dx,hp⟩:=h;⟨dx,s _ _ hp⟩
end
noncomputable def plS:Tq:=(ofString "abcdefghijklmnopqrstuvwxyzABCDEFGHIJKLMNOPQRSTUVWXYZ0123456789-_.").cps.toList
theorem lJ:plS.length=65:=by fail "k"
theorem gM {c:Nat}(h:c < 128):(c∈plS)↔isPl c=true:=by have:=g9 c h;rw[<- this,decide_eq_true_eq];exact Iff.rfl
noncomputable def seesB (t sg:Tq)(i:Nat):Bool:=((t[i]?).map λc=>decide (c∈sg)).getD false
theorem bM {t sg:Tq}{i c:Nat}(h:t[i]?=some c):seesB t sg i=decide (c∈sg):=by unfold seesB;rw[h];rfl
theorem gN {t sg:Tq}{i:Nat}(h:t[i]?=none):seesB t sg i=false:=by unfold seesB;rw[h];rfl
theorem dh {t w:Tq}{i c:Nat}(h:t.drop i=c::w):t[i]?=some c/\i < t.length:=by
 have e:t[i]?=some c:=by rw[<- List.head?_drop,h];rfl
 exact⟨e,(List.getElem?_eq_some_iff.mp e).1⟩
theorem di {fr s w:Tq}(h:WrT fr s w):s.length<=w.length:=by
 induction h with
 |nil=>exact Nat.le_refl _
 |self _ _ _ ih=>simp only[length_cons];lia
 |pair _ _ ih=>simp only[length_cons];lia
noncomputable def frS:Tq:=(ofString "!$'()*,;@&=+").cps.toList
noncomputable def frQ:Tq:=(ofString "!$'()*,;@+/?:").cps.toList
noncomputable def frM:Tq:=(ofString "!$'()*,;@&=+/?:").cps.toList
theorem cS:frS.length<=100:=by fail "k"
theorem dj:frQ.length<=100:=by fail "k"
theorem zM:frM.length<=100:=by fail "k"
theorem gO {fr:Tq}:Stops fr []:=λc h=>by cases h
theorem ba {fr r:Tq}{c:Nat}(h:isPl c=false/\c∉fr/\c≠126):Stops fr (c::r):=λd e=>by cases e;exact h
def MarW (o:Option Tq)(w:Tq):Prop:=match o with
 |none=>w=[]
 |some s=>∃v,w=35::v/\WrT frM s v
def ValW (o:Option Tq)(w:Tq):Prop:=match o with
 |none=>w=[]
 |some s=>∃v,w=61::v/\WrT frQ s v
def HouW (o:Option Tq)(w:Tq):Prop:=match o with
 |none=>w=[]
 |some s=>∃v,w=47::47::v/\WrT [] s v/\s≠[]/\s.length<=60
inductive TlW:List Tq->Bool->Tq->Prop
 |stop:TlW [] false []
 |ends:TlW [] true [47]
 |more {s w:Tq}{ss:List Tq}{e:Bool}{v:Tq}:WrT frS s w->s≠[]->TlW ss e v->TlW (s::ss) e (47::(w++v))
inductive StpW:List Tq->Bool->Tq->Prop
 |none {e:Bool}:StpW [] e []
 |some {s w:Tq}{ss:List Tq}{e:Bool}{v:Tq}:WrT frS s w->s≠[]->TlW ss e v->StpW (s::ss) e (w++v)
theorem gP:(47:Nat)∉frS:=by fail "k"
theorem lK {fr s w:Tq}(h:WrT fr s w)(hs:s≠[]):∃c r,w=c::r/\(isPl c=true\/c∈fr\/c=126):=by
 cases h with
 |nil=>exact absurd rfl hs
 |self a _ _=>exact⟨_,_,rfl,a.elim .inl (λz=>.inr (.inl z))⟩
 |pair _ _=>exact⟨_,_,rfl,.inr (.inr rfl)⟩
theorem lL {ss:List Tq}{e:Bool}{v rest:Tq}(h:TlW ss e v)(hr:Stops frS rest):Stops frS (v++rest):=by
 cases h with
 |stop=>exact hr
 |ends=>exact ba ⟨by decide,gP,by decide⟩
 |more _ _ _=>exact ba ⟨by decide,gP,by decide⟩
theorem lM {ss:List Tq}{e:Bool}{v rest:Tq}(h:StpW ss e v)(hr:rest.head?≠some 47):(v++rest).head?≠some 47:=by
 cases h with
 |none=>exact hr
 |some hw hs _=>
  obtain⟨c,r,rfl,hc⟩:=lK hw hs;intro z;have e:c=47:=Option.some.inj z;subst e;rcases hc with z|z|z
  .cases z
  .exact gP z
  .cases z
theorem zN {ss:List Tq}{e:Bool}{v:Tq}(h:TlW ss e v):ss.length<=v.length:=by
 induction h with
 |stop=>exact Nat.le_refl _
 |ends=>exact Nat.zero_le _
 |more _ _ _ ih=>simp only[length_cons,length_append];lia
theorem zO {ss:List Tq}{e:Bool}{v:Tq}(h:StpW ss e v):ss.length<=v.length:=by
 cases h with
 |none=>exact Nat.le_refl _
 |some hw hs ht=>obtain⟨c,r,rfl,_⟩:=lK hw hs;have:=zN ht;simp only[length_cons,length_append];lia
inductive PrsW:List (Tq×Option Tq)->Tq->Prop
 |nil:PrsW [] []
 |cons {n w v:Tq}{o:Option Tq}{ps:List (Tq×Option Tq)}{r:Tq}:WrT frQ n w->n≠[]->ValW o v->PrsW ps r->PrsW ((n,o)::ps) (38::(w++(v++r)))
def QueW (q:Option (List (Tq×Option Tq)))(w:Tq):Prop:=match q with
 |none=>w=[]
 |some []=>w=[63]
 |some ((n,o)::ps)=>∃a v r,w=63::(a++(v++r))/\WrT frQ n a/\n≠[]/\ValW o v/\PrsW ps r
theorem gQ:(35:Nat)∉frQ/\(38:Nat)∉frQ/\(61:Nat)∉frQ:=by fail "k"
theorem gR {ps:List (Tq×Option Tq)}{r rest:Tq}(h:PrsW ps r)(hr:rest=[]\/∃x,rest=35::x):Stops frQ (r++rest)/\(r++rest).head?≠some 61:=by
 cases h with
 |nil=>
  rcases hr with rfl|⟨x,rfl⟩
  .exact⟨gO,by simp⟩
  .exact⟨ba ⟨by decide,gQ.1,by decide⟩,by simp⟩
 |cons _ _ _ _=>exact⟨ba ⟨by decide,gQ.2.1,by decide⟩,by simp⟩
theorem lN {o:Option Tq}{v r:Tq}(h:ValW o v)(hr:Stops frQ r):Stops frQ (v++r):=by
 cases o with
 |none=>have h:v=[]:=h;subst h;exact hr
 |some s=>obtain⟨x,rfl,_⟩:=h;exact ba ⟨by decide,gQ.2.2,by decide⟩
theorem zP {ps:List (Tq×Option Tq)}{r:Tq}(h:PrsW ps r):ps.length<=r.length:=by
 induction h with
 |nil=>exact Nat.le_refl _
 |cons _ _ _ _ ih=>simp only[length_cons,length_append];lia
theorem Cur.toT {H H':Hp}{C p:Addr}{t:Tq}{i:Nat}(h:Cur H C p t i)(s:SameBut p H H'):SameT H H':=λb xs e=>s b _ (by obtain⟨dx,hp⟩:=h;exact fS e hp (by intro z;cases z)) e
noncomputable def pD (a:Tq×Option Tq):PyData:=.tuple [st a.1,oD a.2]
def PrL (H:Hp)(vs:List V)(dn:List (Tq×Option Tq)):Prop:=vs.length=dn.length/\∀(i:Nat) (a:Tq×Option Tq) (y:V),dn[i]?=some a->vs[i]?=some y->IsT H (pD a) y
theorem PrL.mono {H H':Hp}{vs:List V}{dn:List (Tq×Option Tq)}(h:PrL H vs dn)(s:SameT H H'):PrL H' vs dn:=⟨h.1,λi a y e1 e2=>(h.2 i a y e1 e2).mono s⟩
theorem PrL.snoc {H:Hp}{vs:List V}{dn:List (Tq×Option Tq)}{a:Tq×Option Tq}{y:V}(h:PrL H vs dn)(hy:IsT H (pD a) y):PrL H (vs++[y]) (dn++[a]):=by
 refine⟨by simp[h.1],λi b z e1 e2=>?_⟩;by_cases hi:i < dn.length
 .rw[List.getElem?_append_left hi] at e1;rw[List.getElem?_append_left (by rw[h.1];exact hi)] at e2;exact h.2 i b z e1 e2
 .have:=(List.getElem?_eq_some_iff.mp e1).1;rw[length_append,length_singleton] at this;have e:i=dn.length:=by lia
  subst e;rw[List.getElem?_append_right (Nat.le_refl _),Nat.sub_self] at e1;rw[<- h.1,List.getElem?_append_right (Nat.le_refl _),Nat.sub_self] at e2;cases e1;cases e2;exact hy
theorem lO {H:Hp}{α:Type}{g:α->PyData}:∀{l:List α}{ys:List V},ys.length=l.length->(∀(i:Nat) (a:α) (y:V),l[i]?=some a->ys[i]?=some y->IsT H (g a) y)->IsTAll H (l.map g) ys
 |[],[],_,_=>.nil
 |[],_::_,h,_=>by simp at h
 |_::_,[],h,_=>by simp at h
 |a::l,y::ys,h,k=>.cons (k 0 a y rfl rfl) (lO (by simpa using h) λi b z e1 e2=>k (i+1) b z (by simpa using e1) (by simpa using e2))
noncomputable def fgS:Tq:=(ofString "0123456789").cps.toList
theorem dk {c:Nat}:c∈fgS↔48<=c/\c<=57:=by rw[show fgS=List.range' 48 10 by fail "k",List.mem_range'_1];lia
noncomputable def valD (ds:Tq):Nat:=ds.foldl (λa c=>a * 10+(c - 48)) 0
theorem bb (ds:Tq)(c:Nat):valD (ds++[c])=valD ds * 10+(c - 48):=by unfold valD;rw[List.foldl_append];rfl
theorem dm:∀(es ds:Tq),valD ds<=valD (ds++es)
 |[],ds=>by rw[append_nil];exact Nat.le_refl _
 |c::es,ds=>by have h:=dm es (ds++[c]);rw[bb,append_assoc] at h;exact Nat.le_trans (by lia) h
theorem lP {ds:Tq}{c:Nat}{r:Tq}(h:ds=c::r)(hc:49<=c):0 < valD ds:=by
 have:=dm r [c];rw[h];have e:valD [c]=c - 48:=by unfold valD;simp
 show 0 < valD ([c]++r);lia
def DooW (o:Option Int)(w:Tq):Prop:=match o with
 |none=>w=[]
 |some n=>∃ds,w=58::ds/\ds≠[]/\(∀c∈ds,48<=c/\c<=57)/\(valD ds:Int)=n/\valD ds<=65535/\(ds=[48]\/ds.head?≠some 48)
theorem lQ:∀c,c < 58->48<=c->PySem.intText? ⟨#[c]⟩=some (((c - 48:Nat)):Int):=by fail "k"
theorem zQ {s r:Tq}(h:∀c∈s,c≠58):ahead (s++58::r)=s:=by unfold ahead;rw[List.takeWhile_append_of_pos (λc hc=>decide_eq_true (h c hc)),List.takeWhile_cons_of_neg (by simp),append_nil]
theorem lR (t:Tq):∃r,t=ahead t++r:=⟨t.dropWhile λc=>decide (c≠58),(List.takeWhile_append_dropWhile (p:=λc=>decide (c≠58))).symm⟩
theorem zR (t:Tq):(ahead t).length<=t.length:=by obtain⟨r,h⟩:=lR t;have:=congrArg List.length h;rw[length_append] at this;lia
theorem lS (t:Tq):t.take (ahead t++[58]).length=ahead t++[58]↔t[(ahead t).length]?=some 58:=by
 obtain⟨r,h⟩:=lR t;generalize ahead t=a at h;subst h;rw[length_append,length_singleton,List.getElem?_append_right (Nat.le_refl _),Nat.sub_self,List.take_append];rw[take_of_length_le (by lia),show a.length+1 - a.length=1 by lia];constructor
 .intro e;have e:=List.append_cancel_left e;cases r with
  |nil=>simp at e
  |cons c r=>simp at e;rw[e];rfl
 .intro e;cases r with
  |nil=>simp at e
  |cons c r=>simp at e;rw[e];rfl
noncomputable def schM (t:Tq):Tq:=if ahead t≠[]/\schD (.str ⟨(ahead t).toArray⟩)=true/\t[(ahead t).length]?=some 58 then ahead t else []
noncomputable def schP (t:Tq):Nat:=(schT (schM t)).length
theorem lT {t:Tq}(h1:ahead t≠[])(h2:schD (.str ⟨(ahead t).toArray⟩)=true)(h3:t[(ahead t).length]?=some 58):schM t=ahead t/\schP t=(ahead t++[58]).length:=by
 have e:schM t=ahead t:=by unfold schM;rw[if_pos ⟨h1,h2,h3⟩]
 exact⟨e,by unfold schP schT;rw[e,if_neg h1]⟩
theorem dq {t:Tq}(h:¬ (ahead t≠[]/\schD (.str ⟨(ahead t).toArray⟩)=true/\t[(ahead t).length]?=some 58)):schM t=[]/\schP t=0:=by
 have e:schM t=[]:=by unfold schM;rw[if_neg h]
 exact⟨e,by unfold schP schT;rw[e,if_pos rfl];rfl⟩
def RdW (x:Ad)(t:Tq):Prop:=∃h d w q m,t=schT x.scheme++(h++(d++((if x.rooted then [47] else [])++(w++(q++m)))))/\schM t=x.scheme/\HouW x.house h/\DooW x.door d/\StpW x.steps x.ends w/\QueW x.quest q/\MarW x.mark m
end Wm
namespace L2
open PySem
theorem IsKAll.length {K:W.Frag}{H:Hp}:∀{ds:List PyData}{xs:List V},IsKAll K H ds xs->xs.length=ds.length
 |_,_,.nil=>rfl
 |_,_,.cons _ r=>by simp[IsKAll.length r]
theorem lU {K:W.Frag}{H:Hp}:∀{ds:List PyData}{xs:List V}{i:Nat}{d:PyData}{x:V},IsKAll K H ds xs->ds[i]?=some d->xs[i]?=some x->IsK K H d x
 |_,_,0,_,_,.cons h _,e1,e2=>by cases e1;cases e2;exact h
 |_,_,i+1,_,_,.cons _ r,e1,e2=>lU r (i:=i) (by simpa using e1) (by simpa using e2)
 |_,_,0,_,_,.nil,e1,_=>by cases e1
 |_,_,_+1,_,_,.nil,e1,_=>by cases e1
end L2
namespace Wm
open PySem L2
theorem gS:∀n:Nat,valD ((Nat.toDigits 10 n).map Char.toNat)=n/\(Nat.toDigits 10 n).map Char.toNat≠[]/\(((Nat.toDigits 10 n).map Char.toNat).head?=some 48->n=0)
 |n=>by
  by_cases h:n < 10
  .rw[Nat.toDigits_of_lt_base h];have key:∀n,n < 10->valD ([Nat.digitChar n].map Char.toNat)=n/\([Nat.digitChar n].map Char.toNat).head?=some (48+n):=by fail "k"
   obtain⟨k1,k2⟩:=key n h;refine⟨k1,by simp,λz=>?_⟩;rw[k2] at z;injection z with z;lia
  .have h':10<=n:=by lia
   rw[Nat.toDigits_of_base_le (by decide) h',map_append];obtain⟨i1,i2,i3⟩:=gS (n / 10);have key:∀n,n < 10->([Nat.digitChar n].map Char.toNat)=[48+n]:=by fail "k"
   rw[key (n % 10) (by lia),bb,i1];refine⟨by lia,by simp,λz=>?_⟩;cases hh:(Nat.toDigits 10 (n / 10)).map Char.toNat with
   |nil=>exact absurd hh i2
   |cons c r=>rw[hh] at z i3;have:=i3 z;lia
theorem zS {o:Option Int}(h:∀i,o=some i->0<=i/\i<=65535):DooW o (dooT o):=by
 cases o with
 |none=>rfl
 |some i=>
  obtain⟨h1,h2⟩:=h i rfl;obtain⟨n,rfl⟩:=Int.eq_ofNat_of_zero_le h1;have e:dg (n:Int)=(Nat.toDigits 10 n).map Char.toNat:=by unfold dg;rw[PySem.W.KIN.signs_num]
  obtain⟨i1,i2,i3⟩:=gS n;refine⟨dg n,rfl,by rw[e];exact i2,dU h1,by rw[e,i1],by rw[e,i1];lia,?_⟩;by_cases hz:(dg n).head?=some 48
  .rw[e] at hz;have:=i3 hz;subst this;exact .inl (by rw[e];decide)
  .exact .inr hz
theorem zT {o:Option Tq}(h:∀l,o=some l->(0 < l.length/\l.length<=60)/\∀c∈l,isSg c=true):HouW o (houT o):=by
 cases o with
 |none=>rfl
 |some l=>obtain⟨⟨h1,h2⟩,h3⟩:=h l rfl;exact⟨wr l,rfl,bY h3,(λe=>by rw[e] at h1;cases h1),h2⟩
theorem zU {o:Option Tq}(h:∀l,o=some l->∀c∈l,isSg c=true):MarW o (oT 35 o):=by
 cases o with
 |none=>rfl
 |some l=>exact⟨wr l,rfl,bY (h l rfl)⟩
theorem lV {o:Option Tq}(h:∀l,o=some l->∀c∈l,isSg c=true):ValW o (oT 61 o):=by
 cases o with
 |none=>rfl
 |some l=>exact⟨wr l,rfl,bY (h l rfl)⟩
theorem lW {e:Bool}:∀{ss:List Tq},(∀s∈ss,StepOk s)->TlW ss e (tlT 47 (ss.map wr)++if e then [47] else [])
 |[],_=>by cases e <;> simp[tlT] <;> constructor
 |s::ss,h=>by have h1:=h s (mem_cons_self ..);have:=TlW.more (bY (fr:=frS) h1.2) (λz=>by rw[z] at h1;cases h1.1) (lW (e:=e) (ss:=ss) λt ht=>h t (mem_cons_of_mem _ ht));simpa [tlT] using this
theorem zV {ss:List Tq}{e:Bool}(h:∀s∈ss,StepOk s):StpW ss e (stpT ss e):=by
 cases ss with
 |nil=>rw[yN];exact .none
 |cons s ss=>have h1:=h s (mem_cons_self ..);have:=StpW.some (bY (fr:=frS) h1.2) (λz=>by rw[z] at h1;cases h1.1) (lW (e:=e) (ss:=ss) λt ht=>h t (mem_cons_of_mem _ ht));unfold stpT;simpa [joinT] using this
theorem lX:∀{ps:List (Tq×Option Tq)},(∀p∈ps,PairOk p)->PrsW ps (tlT 38 (ps.map pairT))
 |[],_=>.nil
 | (n,o)::ps,h=>by have h1:=h (n,o) (mem_cons_self ..);have:=PrsW.cons (bY (fr:=frQ) h1.1.2) (λz=>by have:=h1.1.1;rw[z] at this;cases this) (lV h1.2) (lX (ps:=ps) λt ht=>h t (mem_cons_of_mem _ ht));simpa [tlT,pairT] using this
theorem zW {q:Option (List (Tq×Option Tq))}(h:∀ps,q=some ps->∀p∈ps,PairOk p):QueW q (queT q):=by
 cases q with
 |none=>rfl
 |some ps=>
  cases ps with
  |nil=>rfl
  |cons p ps=>obtain⟨n,o⟩:=p;have h1:=h _ rfl (n,o) (mem_cons_self ..);exact⟨wr n,oT 61 o,tlT 38 (ps.map pairT),by simp[queT,joinT,pairT],bY h1.1.2,(λz=>by have:=h1.1.1;rw[z] at this;cases this),lV h1.2,lX λt ht=>h _ rfl t (mem_cons_of_mem _ ht)⟩
theorem lY {P:Nat->Prop}(h1:P 63)(h2:P 38)(h3:P 61)(hw:∀c,wch c=true->P c){q:Option (List (Tq×Option Tq))}(h:∀ps,q=some ps->∀p∈ps,PairOk p):∀c∈queT q,P c:=by
 intro c hc;cases q with
 |none=>cases hc
 |some ps=>
  simp only[queT,mem_cons] at hc;rcases hc with rfl|hc
  .exact h1
  .refine kg h2 (λs hs d hd=>?_) c hc;obtain⟨p,hp,rfl⟩:=mem_map.mp hs;exact yM h3 hw (h ps rfl p hp) d hd
theorem Ad.Wf.all {P:Nat->Prop}{x:Ad}(h:x.Wf)(h1:P 47)(h2:P 58)(h3:P 63)(h4:P 38)(h5:P 61)(h6:P 35)(hw:∀c,wch c=true->P c):∀c∈x.shw,P c:=by
 intro c hc;rw[Ad.shw_eq] at hc;rcases mem_append.mp hc with hc|hc
 .rcases mem_append.mp hc with hc|hc
  .exact h.pre_all h1 h2 hw c hc
  .exact lY h3 h4 h5 hw h.que c hc
 .exact gC h6 hw h.mar c hc
theorem lZ {c:Nat}(h:wch c=true):c < 128:=by simp only[wch,isPl,Bool.or_eq_true,decide_eq_true_eq] at h;lia
theorem zX {x:Ad}(h:x.Wf):∀c∈x.shw,c < 128:=h.all (by decide) (by decide) (by decide) (by decide) (by decide) (by decide) λ_=>lZ
theorem zY {x:Ad}(h:x.Wf):schM x.shw=x.scheme:=by
 by_cases hs:x.scheme=[]
 .rw[hs];refine (dq ?_).1;rintro⟨_,z2,z3⟩;cases hh:x.house with
  |some l=>
   obtain⟨r,hr⟩:∃r,x.shw=47::r:=by unfold Ad.shw;rw[hs,hh];exact⟨_,rfl⟩
   rw[hr] at z2;have:(ahead (47::r))=47::ahead r:=by unfold ahead;rw[List.takeWhile_cons_of_pos (by decide)]
   rw[this] at z2;simp[schD,isLet] at z2
  |none=>
   have hd:x.door=none:=by
    cases hd:x.door with
    |none=>rfl
    |some i=>exact absurd hh (h.doo i hd).2
   have hm:(58:Nat)∈x.shw:=mem_of_getElem? z3;unfold Ad.shw at hm;rw[hs,hh,hd] at hm;simp only[schT,if_true,houT,dooT,nil_append] at hm;have ha:∀c,c∈x.wayT++(queT x.quest++oT 35 x.mark)->c≠58:=by
    intro c hc;rcases mem_append.mp hc with hc|hc
    .exact ki (P:=λc=>c≠58) (by decide) (λc hc=>(dX hc).2.2.2.1) h.stp c hc
    .rcases mem_append.mp hc with hc|hc
     .exact lY (P:=λc=>c≠58) (by decide) (by decide) (by decide) (λc hc=>(dX hc).2.2.2.1) h.que c hc
     .exact gC (P:=λc=>c≠58) (by decide) (λc hc=>(dX hc).2.2.2.1) h.mar c hc
   exact ha 58 hm rfl
 .have hc:∀c∈x.scheme,c≠58:=λc hc=>(dX (ka (h.sch.2.1 c hc))).2.2.2.1;obtain⟨r,hr⟩:∃r,x.shw=x.scheme++58::r:=by
   unfold Ad.shw schT;rw[if_neg hs];exact⟨_,by rw[append_assoc];rfl⟩
  have ha:ahead x.shw=x.scheme:=by rw[hr];exact zQ hc
  have:=(lT (t:=x.shw) (by rw[ha];exact hs) (by
   rw[ha];simp only[schD,Bool.and_eq_true,all_eq_true,decide_eq_true_eq];exact⟨⟨⟨λc hc=>kX (h.sch.2.1 c hc),by show x.scheme.length<=8;exact h.sch.1⟩,h.sch.2.2⟩,h.sch.2.1⟩) (by
   rw[ha,hr,List.getElem?_append_right (Nat.le_refl _),Nat.sub_self];rfl)).1
  rw[this,ha]
theorem zZ {x:Ad}(h:x.Wf):RdW x x.shw:=
 ⟨houT x.house,dooT x.door,stpT x.steps x.ends,queT x.quest,oT 35 x.mark,by unfold Ad.shw Ad.wayT;rw[kh,append_assoc],zY h,zT h.hou,zS λi e=>(h.doo i e).1,zV h.stp,zW h.que,zU h.mar⟩
def GoodsT (n:Nat)(H:Hp)(vs:List V):Prop:=∀v∈vs,∃x:Ad,(x.Wf/\x.Tiny/\x.steps.length<=n)/\IsT H x.data v
theorem GoodsT.cons {n:Nat}{H:Hp}{v:V}{vs:List V}{x:Ad}(h1:x.Wf/\x.Tiny/\x.steps.length<=n)(h3:IsT H x.data v)(h:GoodsT n H vs):GoodsT n H (v::vs):=λu hu=>by
 rcases mem_cons.mp hu with rfl|hu
 .exact⟨x,h1,h3⟩
 .exact h u hu
theorem Ad.Tiny.local {x:Ad}(h:x.Tiny):({x with scheme:=[],house:=none,door:=none}:Ad).Tiny:=⟨h.stp,h.que,h.mar,λl e=>by cases e⟩
theorem zc {fr s w:Tq}(hf:∀c∈fr,c < 128)(h:WrT fr s w):∀c∈w,c < 128:=by
 induction h with
 |nil=>intro c hc;cases hc
 |self a b _ ih=>
  intro d hd;rcases mem_cons.mp hd with rfl|hd
  .rcases a with a|a
   .exact lZ (by unfold wch;rw[a];rfl)
   .exact hf _ a
  .exact ih d hd
 |pair a _ ih=>
  intro d hd;obtain⟨_,h1,h2,_⟩:=gL a;simp only[mem_cons] at hd;rcases hd with rfl|rfl|rfl|hd
  .decide
  .exact h1
  .exact h2
  .exact ih d hd
theorem zi {c:Nat}(hc:isSg c=true):sgO (if c / 16 < 10 then 48+c / 16 else 55+c / 16) (if c % 16 < 10 then 48+c % 16 else 55+c % 16)=some c:=by
 have l:=ah hc;have key:∀h,h < 16->fig (if h < 10 then 48+h else 55+h)=some h:=by fail "k"
 unfold sgO;rw[key (c / 16) (by lia),key (c % 16) (by lia)];simp only;rw[show c / 16 * 16+c % 16=c by lia,if_pos hc]
theorem zj:∀n,n < 16->(ofString "0123456789abcdef").cps.toList[n]?=some (hexd n):=by fail "k"
theorem zk:∀n,n < 16->(ofString "0123456789ABCDEF").cps.toList[n]?=some (if n < 10 then 48+n else 55+n):=by fail "k"
end Wm
namespace L2
open PySem
theorem gT {K:W.Frag}{p a:Addr}{fv:St}{te:TE}{Q:VK}{H1:Hp}{xs:List V}(J:Nat->List V->Hp->Prop)(hlen:xs.length<=sizeLine)(h0:J 0 [] (upd H1 p (.lst [])))(hS:∀i ys H2,J i ys H2->SqT K H2 a xs)
  (he:∀(i:Nat) (x:V) (ys:List V) (H2:Hp) (T:VK),xs[i]?=some x->J i ys H2->H2 p=some (.lst ys)->(∀y H3,H3 p=some (.lst ys)->J (i+1) (ys++[y]) (upd H3 p (.lst (ys++[y])))->T y H3)->te (some x::fv) H2 T)
  (hQ:∀ys H2,J xs.length ys H2->H2 p=some (.lst ys)->Q (.ref p) H2):CompI (Itt K a) p fv tYes te Q H1:=by
 refine⟨λi m ys H2=>m=xs.length - i/\i<=xs.length/\ys.length=i/\H2 p=some (.lst ys)/\J i ys H2,⟨xs.length,by simp,Nat.zero_le _,rfl,aC,h0⟩,?_⟩;rintro i m ys H2 ⟨rfl,hi,mt,dl,hJ⟩;refine⟨dl,?_⟩;have q:=hS _ _ _ hJ;by_cases ld:i < xs.length
 .refine .inr ⟨⟨xs,xs[i],q,by simp[ld]⟩,by lia,λx H3 y=>?_⟩;obtain⟨rfl,y⟩:=y;have hc:=y xs q;unfold tYes;dsimp only;rw[if_pos rfl];exact he i x ys _ _ hc hJ dl λy H5 BT Cl=>⟨BT,xs.length - (i+1),by lia,rfl,ld,by rw[length_append,mt];rfl,aC,Cl⟩
 .have e:i=xs.length:=by lia
  subst e;exact .inl ⟨⟨xs,q,Nat.le_refl _⟩,hQ ys H2 hJ dl⟩
end L2
namespace Wm
open PySem L2
def PrW (p:Tq×Option Tq)(w:Tq):Prop:=∃a v,w=a++v/\WrT frQ p.1 a/\ValW p.2 v
inductive PrWs:List (Tq×Option Tq)->List Tq->Prop
 |nil:PrWs [] []
 |cons {p:Tq×Option Tq}{w:Tq}{ps:List (Tq×Option Tq)}{ws:List Tq}:PrW p w->PrWs ps ws->PrWs (p::ps) (w::ws)
inductive StWs:List Tq->List Tq->Prop
 |nil:StWs [] []
 |cons {s w:Tq}{ss ws:List Tq}:WrT frS s w->StWs ss ws->StWs (s::ss) (w::ws)
end Wm
namespace L2
open PySem PySem.Spec PyProof.Rows
section
variable {X:Cx}{pins:List (Addr×Obj)}{Z:St}{H:Hp}{s:Shared}{h':Heap}
theorem Inv.walked {t':Nat}{wr:List Addr}{T:Addr}{o:HO}(I:Inv X pins Z H s)(hf:∀b∈wr,FpOk X pins H b)(k:∀b u,b∉wr->s.heap.get? b=some u->h'.get? b=some u)(hT:s.heap.objs.size<=T)
  (new:ObjOk X.prog X.w (upd H T o) h' T o):Inv X pins Z (upd H T o) {s with heap:=h',toks:=t' }:=by
 have hn:H T=none:=I.hok.fresh hT;have nw:∀b u,H b=some u->b∉wr:=λb u e z=>by rw[(hf b z).1] at e;cases e
 refine I.step (g':=s.gens) (d':=s.drawn) (ch:=wr) (λb hb=>?_) (λb u _ _ hc e _=>k b u hc e) (λb u _ _ hc e _=>⟨u.slots,k b u hc e⟩) (λb u _ q n=>?_)
  (λb u hc e=>⟨u,k b u hc e⟩) (λb xs q=>?_) (λb u xs q=>?_) (λb ps q=>?_) (λm hm=>?_) (λb u e=>?_) I.bare
 .obtain⟨f0,f1,f2,f3,f4,f5⟩:=hf b hb;exact⟨f3,f1,f4,f5⟩
 .rw[aE (Nat.ne_of_lt (Nat.lt_of_lt_of_le (Heap.lt_size q) hT))];exact n
 .rw[aE (aJ q hn)];exact q
 .rw[aE (aJ q hn)];exact q
 .exact⟨#[],by rw[aE (aJ q hn),q];simp⟩
 .obtain⟨u,es,ep,ho,r⟩:=hm;refine⟨u,es,ep,k _ u (λz=>?_) ho,r⟩;exact (hf _ z).2.1 rfl
 .by_cases hb:b=T
  .subst hb;rw[aC] at e;cases e;exact new
  .rw[aE hb] at e;refine (I.hok b u e).stay (λc v hc q=>k c v ?_ q) (λc q=>by rw[aE (aJ q hn)];exact q) λc xs q=>by rw[aE (aJ q hn)];exact q
   rcases hc with z|z
   .rw[z];exact nw b u e
   .exact nw c _ z
theorem Inv.turnedL {t':Nat}{wr:List Addr}(I:Inv X pins Z H s)(hf:∀b∈wr,FpOk X pins H b)(k:∀b u,b∉wr->s.heap.get? b=some u->h'.get? b=some u):Inv X pins Z H {s with heap:=h',toks:=t' }:=by
 have nw:∀b u,H b=some u->b∉wr:=λb u e z=>by rw[(hf b z).1] at e;cases e
 refine I.step (g':=s.gens) (d':=s.drawn) (ch:=wr) (λb hb=>?_) (λb u _ _ hc e _=>k b u hc e) (λb u _ _ hc e _=>⟨u.slots,k b u hc e⟩) (λ_ _ _ _ n=>n)
  (λb u hc e=>⟨u,k b u hc e⟩) (λ_ _ e=>e) (λ_ _ _ e=>e) (λb ps e=>⟨#[],by rw[e];simp⟩) (λm hm=>?_) (λb u e=>?_) I.bare
 .obtain⟨f0,f1,f2,f3,f4,f5⟩:=hf b hb;exact⟨f3,f1,f4,f5⟩
 .obtain⟨u,es,ep,ho,r⟩:=hm;refine⟨u,es,ep,k _ u (λz=>?_) ho,r⟩;exact (hf _ z).2.1 rfl
 .refine (I.hok b u e).stay (λc v hc q=>k c v ?_ q) (λ_ q=>q) λ_ _ q=>q;rcases hc with z|z
  .rw[z];exact nw b u e
  .exact nw c _ z
end
noncomputable def ItW (n:Nat)(ok:Hp->Prop)(pt:Nat->Hp->List V->Prop):It:=
 ⟨λi H=>i < n/\ok H,λi H x H'=>∃T xs,x=.ref T/\H T=none/\H'=upd H T (.tup xs)/\pt i H xs,λi H=>i=n/\ok H⟩
theorem du {P:Program}{w:World}{K:W.Frag}{elts:List Expr}{k:Nat}{pos:Pos}{I:Addr}{fp wr fq:List Addr}{n:Nat}{α:Type}{Pt:α->Nat->Array Value->Prop}{Sn:α->Nat->Heap->Prop}{Mid:α->Nat->Addr->Heap->Prop}{tn:Nat->Heap->Prop}{ok:Hp->Prop}{pt:Nat->Hp->List V->Prop}
  (hI:I∈fq) (hq:∀b∈wr,b∈fq) (hW:∀(A:Around) (a:α),A.handled=none->WalksT P w A I fp wr n (Pt a) (Sn a) (Mid a))
  (hself:∀(A:Around) (i:Nat) (s:Shared) (Q:Value->Shared->Prop) (E:Value->Shared->Prop),tn i s.heap->Q (.ref I) s->wpAny (model P w) A (pyIter (.ref I)) Q E s)
  (hobj:∀i h,tn i h->∀b∈fq,∃o,h.get? b=some o/\∀v,o.data≠.cell v)
  (hkeep:∀i h h',tn i h->(∀b∈fq,∀o,h.get? b=some o->h'.get? b=some o)->tn i h')
  (hin:∀(X:Cx),X.prog=P->X.w=w->X.K=K->∀(i:Nat) (pins:List (Addr×Obj)) (s:Shared) (Z:St) (H:Hp),Inv X pins Z H s->(∀b∈fq,FpOk X pins H b)->tn i s.heap->ok H->∃a,Sn a i s.heap/\∀vals,Pt a i vals->∃xs,xs.length<=sizeLine/\Vals xs vals.toList/\pt i H xs)
  (hout:∀a i h,Sn a i h->tn i h) :
  Turn P w K (.Tuple elts k pos) (ItW n ok pt) fq I tn where
 mem:=hI
 obj:=hobj
 keep:=hkeep
 item:=by
  intro X hP hw hK hc i pins s Z H E J hf st hg;obtain⟨hi,mt⟩:=hg;have BT:∀b∈wr,FpOk X pins H b:=λb hb=>hf b (hq b hb);obtain⟨a,ld,hv⟩:=hin X hP hw hK i pins s Z H J hf st mt;obtain⟨Fk,Fj,Fa,EZ,EY,EX,Fi⟩:=hW X.A a (J.ok.hd hc);refine Fa i s _ E hi ld λT vals h1 tk Fo hT Cl dl hk=>?_;refine⟨.ref T,rfl,?_⟩;refine EZ elts k pos i T _ _ E dl λh2 Fb EW=>?_;obtain⟨xs,Fc,Fe,Ff⟩:=hv vals Fo;have Fl:T∉wr:=EY i T h1 dl;have Fm:H T=none:=J.hok.fresh hT;have Fg:∀b u,b∉wr->s.heap.get? b=some u->h2.get? b=some u:=λb u hb e=>EW b u hb (hk b u hb e);obtain⟨o,ho,Fh,m,hd⟩:=Cl;have Fn:IsTup h2 T vals.toList.toArray:=by refine⟨o,EW T o Fl ho,Fh,m,?_⟩;rw[hd]
  refine⟨.ref T,upd H T (.tup xs),J.walked (t':=tk) BT Fg hT ⟨Fc,vals.toList,Fe,Fn⟩,rfl,⟨T,xs,rfl,Fm,rfl,Ff⟩,hout a _ _ Fb,λb hb=>?_⟩;have:b≠T:=λz=>by obtain⟨o,e,_⟩:=hobj i _ st b hb;exact absurd (Heap.lt_size e) (by rw[z];exact Nat.not_lt.mpr hT)
  rw[aE this];exact (hf b hb).1
 done:=by intro X hP hw hK hc i pins s Z H E J hf st hg;obtain⟨hi,mt⟩:=hg;subst hi;have BT:∀b∈wr,FpOk X pins H b:=λb hb=>hf b (hq b hb);obtain⟨a,ld,_⟩:=hin X hP hw hK i pins s Z H J hf st mt;obtain⟨Fk,Fj,Fa,EZ,EY,EX,Fi⟩:=hW X.A a (J.ok.hd hc);exact EX s _ E ld λh1 tk hk=>⟨rfl,J.turnedL BT hk⟩
 self:=hself
section
variable {Z:St}{H:Hp}{D:Ends}{g:TG}{tb:TS}
theorem dv {n:Nat}{ok:Hp->Prop}{pt:Nat->Hp->List V->Prop}(Pv:Nat->St->Hp->Prop)(h0:Pv 0 Z H)(hl:∀i Z H,i<=n->Pv i Z H->ok H)
  (hs:∀i Z H T xs,i < n->Pv i Z H->H T=none->pt i H xs->g (.ref T) Z (upd H T (.tup xs)) λZ2 H2=>tb {D with nx:=Pv (i+1),ct:=Pv (i+1),bk:=D.nx} Z2 H2) (hd:∀Z H,Pv n Z H->D.nx Z H):LoopI (ItW n ok pt) g tb D Z H:=by
 refine⟨λi m Z H=>m=n - i/\i<=n/\Pv i Z H,⟨n,by simp,Nat.zero_le _,h0⟩,?_⟩;rintro i m Z H ⟨rfl,hi,p⟩;have hq:=hl i Z H hi p;by_cases dl:i < n
 .refine .inr ⟨⟨dl,hq⟩,Pv (i+1),λZ' H' p'=>⟨n - (i+1),by lia,rfl,dl,p'⟩,λx H' y=>?_⟩;obtain⟨T,xs,rfl,hT,rfl,hp⟩:=y;exact hs i Z _ T xs dl p hT hp
 .have e:i=n:=by lia
  subst e;exact .inl ⟨⟨rfl,hq⟩,hd Z H p⟩
end
section
variable {prog:Program}{w:World}{A:Around}{E:Value->Shared->Prop}{s:Shared}
theorem zm {it a:Addr}{i:Nat}{its:Array Value}{x:Value}{Q:Value->Shared->Prop}(hi:s.heap.IsTupleIter it a i)(ha:s.heap.IsTuple a its)(hx:its[i]?=some x)
  (q:∀h',h'.IsTupleIter it a (i+1)->Heap.SameBut it s.heap h'->Q x {s with heap:=h' }):wpAny (model prog w) A (Builtin.SmallTypes.nextOf (.ref it)) Q E s:=by
 obtain⟨u,hu,mt,dl⟩:=id hi;obtain⟨v,hv,_,m,ld⟩:=ha;unfold Builtin.SmallTypes.nextOf;refine wpAny_bind (wpAny_callSpecial?_slot (name:=ofString "__next__") hi.typeIs F.slot_tuple_iterator_next (wpAny_call_entry F.slot_tuple_iterator_next hi.typeIs F.entry_tuple_iterator_next ?_ (F.args_tuple_iterator_next_1 _)));show wpAny _ _ (field (.ref it) 0 >>= _) _ _ _;refine wpAny_bind (wpAny_field hu dl (x:=.ref a) rfl ?_);show wpAny _ _ (if (Value.ref a == Value.none)=true then _ else _) _ _ _;rw[if_neg (by exact Bool.false_ne_true)];show wpAny _ _ (field (.ref it) 1 >>= _) _ _ _;refine wpAny_bind (wpAny_field hu dl (x:=.int i 0) rfl ?_);show wpAny _ _ (seqItems? (.ref a) >>= _) _ _ _;refine wpAny_bind (wpAny_seqItems hv ld ?_);simp only[Int.toNat_natCast,hx];refine wpAny_bind (wpAny_setField hu dl (by simp) (wpAny_pure ⟨x,rfl,wpAny_pure (q _ ⟨_,Heap.get?_update_self _ hu (Obj.isFreed_of_fields (Obj.data_mapFields dl _)),(Obj.cls_mapFields ..).trans mt,?_⟩ (Heap.SameBut.update ..))⟩));rw[Obj.data_mapFields dl];simp[rawInt]
theorem zn {it a:Addr}{i:Nat}{its:Array Value}{Q:Value->Shared->Prop}(hh:A.handled=none)(hi:s.heap.IsTupleIter it a i)(ha:s.heap.IsTuple a its)(hx:its[i]?=none)
  (q:∀h' e,Heap.ExtBut it s.heap h'->(∃o,h'.get? e=some o/\o.cls=.type "StopIteration")->E (.ref e) {s with heap:=h' }):wpAny (model prog w) A (Builtin.SmallTypes.nextOf (.ref it)) Q E s:=by
 obtain⟨u,hu,mt,dl⟩:=id hi;obtain⟨v,hv,_,m,ld⟩:=ha;unfold Builtin.SmallTypes.nextOf;refine wpAny_bind (wpAny_callSpecial?_slot (name:=ofString "__next__") hi.typeIs F.slot_tuple_iterator_next (wpAny_call_entry F.slot_tuple_iterator_next hi.typeIs F.entry_tuple_iterator_next ?_ (F.args_tuple_iterator_next_1 _)));show wpAny _ _ (field (.ref it) 0 >>= _) _ _ _;refine wpAny_bind (wpAny_field hu dl (x:=.ref a) rfl ?_);show wpAny _ _ (if (Value.ref a == Value.none)=true then _ else _) _ _ _;rw[if_neg (by exact Bool.false_ne_true)];show wpAny _ _ (field (.ref it) 1 >>= _) _ _ _;refine wpAny_bind (wpAny_field hu dl (x:=.int i 0) rfl ?_);show wpAny _ _ (seqItems? (.ref a) >>= _) _ _ _;refine wpAny_bind (wpAny_seqItems hv ld ?_);simp only[Int.toNat_natCast,hx];refine wpAny_bind (wpAny_rule (wpAny_bind (wpAny_setField hu dl (by simp) ?_)));show wpAny _ A.in1 (newExc (.type "StopIteration") [] >>= _) _ _ _;unfold newExc newTuple;refine wpAny_bind (wpAny_bind (wpAny_newObj_type (wpAny_bind (m:=firstArgMember _ _) (wpAny_of_eq (a:=Value.none) (by first|rfl|(simp only[firstArgMember];rfl)) (wpAny_newObj_type ?_ (by size_fits)))) (by size_fits)));unfold raiseNew;refine wpAny_bind (wpAny_handled ?_);rw[show A.in1.handled=none from hh];exact wpAny_bind (wpAny_pure (wpAny_throw (q _ _ (((Heap.SameBut.update ..).extBut.push _).push _) ⟨_,Heap.get?_push_size _ rfl,rfl⟩)))
theorem gU (hh:A.handled=none)(it a:Addr)(hne:a≠it)(its:Array Value):Draws prog w A it [it,a] its.size (λi v=>its[i]?=some v) (λi h=>h.IsTupleIter it a i/\h.IsTuple a its) where
 live:=λ_ _ st=>let ⟨o,ho,_⟩:=st.1;⟨o,ho⟩
 frame:=λ_ _ _ st hk=>⟨let ⟨o,ho,r⟩:=st.1;⟨o,hk it (by simp) o ho,r⟩,let ⟨o,ho,r⟩:=st.2;⟨o,hk a (by simp) o ho,r⟩⟩
 item:=λi s Q E hi st hQ=>zm st.1 st.2 (x:=its[i]) (by simp[hi]) λh' hit' hs'=>hQ _ h' s.toks (by simp[hi]) ⟨hit',st.2.extBut hs'.extBut hne⟩ hs'
 done:=λs Q E st hE=>zn hh st.1 st.2 (by simp) hE
end
noncomputable abbrev titO (t:Addr):Obj:={ cls:=.type "tuple_iterator",data:=.fields #[.ref t,.int 0 0]}
noncomputable abbrev enuO (it:Addr):Obj:={ cls:=.type "enumerate",data:=.fields #[.none,.bool false,.ref it,rawInt 0,.none,.none]}
theorem zo (t:Addr)(its:Array Value):Meets (Builtin.«enumerate.__new__» ⟨[.type "enumerate",.ref t],[]⟩) (λ_ R s=>s.heap.IsTuple t its/\
  R (.ok (.ret (.ref (s.heap.push (titO t)).objs.size))) {s with heap:=(s.heap.push (titO t)).push (enuO s.heap.objs.size)}):=
 .of_wp λprog w A R s h=>by
  obtain⟨hp,g,d,tk,os⟩:=s;obtain⟨hl,h⟩:=h;have hsub:=sub_enumerate
  wp_walk using wpAny_pyIter_tuple hl
  refine wpAny_stack_any λ_=>wpAny_pure ?_;split
  .rename_i z _ _ _ _ _;cases (z == Value.type "enumerate") <;> (wp_walk using wpAny_pyIter_tuple hl) <;> exact⟨_,rfl,h⟩
  .wp_walk using wpAny_pyIter_tuple hl
   exact⟨_,rfl,h⟩
section
variable {prog:Program}{w:World}{A:Around}{E:Value->Shared->Prop}{s:Shared}
theorem zp {t:Addr}{its:Array Value}{Q:Value->Shared->Prop}(ht:s.heap.IsTuple t its)
  (h:∀h',IsEnum h' (s.heap.objs.size+1) s.heap.objs.size 0 .none->h'.IsTupleIter s.heap.objs.size t 0->(∀b o,s.heap.get? b=some o->h'.get? b=some o)->Q (.ref (s.heap.objs.size+1)) {s with heap:=h' }) :
  wpAny (model prog w) A (call (.type "enumerate") [.ref t]) Q E s:=by
 refine callType_new F.called_enumerate (by decide) (F.typeCall_enumerate_1 _) (F.newCall_enumerate_1 _) (λdl=>F.args_object_init_2 dl _) F.entry_enumerate_new (zo t its) ⟨ht,?_⟩;have hz:(s.heap.push (titO t)).objs.size=s.heap.objs.size+1:=Heap.size_push ..;show _/\_;rw[hz];have he:IsEnum ((s.heap.push (titO t)).push (enuO s.heap.objs.size)) (s.heap.objs.size+1) s.heap.objs.size 0 .none:=by have:=Heap.get?_push_size (s.heap.push (titO t)) (o:=enuO s.heap.objs.size) rfl;rw[hz] at this;exact this
 exact⟨⟨_,he,rfl⟩,h _ he ⟨_,Heap.get?_push_of_some _ (Heap.get?_push_size _ rfl),rfl,rfl⟩ λb o x=>Heap.get?_push_of_some _ (Heap.get?_push_of_some _ x)⟩
end
noncomputable def ItE (K:W.Frag)(a:Addr)(xs:List V):It:=ItW xs.length (λH=>SqT K H a xs) λi _ ys=>∃v,xs[i]?=some v/\ys=[.int (i:Int),v]
theorem zr {P:Program}{w:World}{K:W.Frag}{elts:List Expr}{k:Nat}{pos:Pos}(a it e:Addr)(xs:List V)(h1:a≠it)(h2:e≠it)(h3:e≠a) :
  Turn P w K (.Tuple elts k pos) (ItE K a xs) [e,it] e (λi h=>(∃old,IsEnum h e it i old)/\h.IsTupleIter it a i):=by
 refine du (fp:=e::[it,a]) (α:={ ld:Array Value // ld.size=xs.length}) (Pt:=λz i dl=>∃t x,z.1[i]?=some x/\dl=#[.int i t,x])
  (Sn:=λz i h=>(∃old,IsEnum h e it i old)/\(h.IsTupleIter it a i/\h.IsTuple a z.1)) (Mid:=λz i T h=>(∃x,IsEnumOut h e it ((i:Int)+1) x T)/\(h.IsTupleIter it a (i+1)/\h.IsTuple a z.1)/\T≠e/\T≠it)
  (by simp) (λ_ z=>z) (λA z hh=>?_) (λA i s Q E st q=>?_) (λi h st b hb=>?_) (λi h h' st kp=>?_) ?_ (λz i h st=>⟨st.1,st.2.1⟩)
 .have:=WalksT.enumerateD (gU (prog:=P) (w:=w) (A:=A.in1) hh it a h1 z.1) e h2 (by simp[h2,h3]) (by simp);rw[z.2] at this;exact this
 .obtain⟨⟨old,he⟩,_⟩:=st;exact wpAny_pyIter_enum he q
 .obtain⟨⟨old,he⟩,o,ho,hc,hd⟩:=st;rcases mem_cons.mp hb with rfl|hb
  .exact⟨_,he,λv z=>by cases z⟩
  .rw[mem_singleton.mp hb];exact⟨o,ho,λv z=>by rw[hd] at z;cases z⟩
 .obtain⟨⟨old,he⟩,o,ho,r⟩:=st;exact⟨⟨old,kp e (by simp) _ he⟩,o,kp it (by simp) o ho,r⟩
 .intro X hP hw hK i BT s Z H J hf st Cl;subst hP hw hK;obtain⟨ld,rv,p,hz⟩:=J.tuple Cl;refine⟨⟨ld.toArray,by have:=rv.length;simp;lia⟩,⟨st.1,st.2,p⟩,?_⟩;rintro dl ⟨t,x,hx,rfl⟩;have mt:ld[i]?=some x:=by simpa using hx
  have hi:i < xs.length:=by have:=rv.length;have:=(List.getElem?_eq_some_iff.mp mt).1;lia
  obtain⟨u,hu,ru⟩:=rv.get (List.getElem?_eq_getElem hi);rw[mt] at hu;cases hu;exact⟨[.int (i:Int),xs[i]],(show 2<=sizeLine by decide),.cons ⟨t,rfl⟩ (.cons ru .nil),xs[i],List.getElem?_eq_getElem hi,rfl⟩
section
variable {X:Cx}{K:W.Frag}{elts:List Expr}{kk:Nat}{tpos:Pos}
def iEnum (K:W.Frag)(ta:TA):TI:=λZ H R=>ta Z H λvs H1=>∃a xs,vs=[.ref a]/\SqT K H1 a xs/\R (ItE K a xs) H1
theorem zt {a:Expr}{ta:TA}{p pos:Pos}(h:X.K=K)(hg:Gl X "enumerate")(hm:X.mg "enumerate"=none)(ha:PA X [a] ta)(hs:starEach [a] X.env=[(false,eval a X.env)]:=by rfl):PI X (.Tuple elts kk tpos) (.Call (.Name "enumerate" p) [a] [] pos) (iEnum K ta):=by
 subst h;intro dl s Z H R I q;refine Call_ (az I hg hm boot_enumerate (PyProof.Rows.callWith_type1 (thn (ha pos dl s Z H _ I q) λus s1 W'=>?_) hs rfl));obtain⟨vs,H1,I1,r1,q1⟩:=W';obtain⟨a,xs,e,hq,q⟩:=q1;subst e;obtain⟨u,rfl,ru⟩:=vals1 r1;cases ru;obtain⟨Cl,rv,pt,hz⟩:=I1.tuple hq;refine zp (show s1.heap.IsTuple a Cl.toArray from pt) λh' he hi hk=>?_;refine wpAny_pyIter_enum (s:={ s1 with heap:=h' }) he ?_;have BT:a < s1.heap.objs.size:=by obtain⟨o,ho,_⟩:=pt;exact Heap.lt_size ho
 have ld:Inv X dl Z H1 {s1 with heap:=h' }:=I1.kept (t':=s1.toks) hk;refine⟨s1.heap.objs.size+1,[s1.heap.objs.size+1,s1.heap.objs.size],_,_,H1,rfl,ld,zr a s1.heap.objs.size (s1.heap.objs.size+1) xs (Nat.ne_of_lt BT) (Nat.succ_ne_self _) (Nat.ne_of_gt (Nat.lt_succ_of_lt BT)),⟨⟨_,he⟩,hi⟩,λb hb=>?_,q⟩;simp only[mem_cons,not_mem_nil,or_false] at hb;have mt:s1.heap.objs.size<=b:=by
  rcases hb with rfl|rfl
  .exact Nat.le_succ _
  .exact Nat.le_refl _
 exact I1.fpOk mt (I1.hok.fresh mt)
variable {Z:St}{H:Hp}{D:Ends}{g:TG}{tb:TS}{aa:TA}
theorem zu:(tFor (iEnum K aa) g tb D Z H)=(aa Z H λvs H1=>∃a xs,vs=[.ref a]/\SqT K H1 a xs/\LoopI (ItE K a xs) g tb D Z H1):=rfl
theorem zv {a:Addr}{xs:List V}(Pv:Nat->St->Hp->Prop)(h0:Pv 0 Z H)(hl:∀i Z H,i<=xs.length->Pv i Z H->SqT K H a xs)
  (hs:∀i v Z H T,xs[i]?=some v->Pv i Z H->H T=none->g (.ref T) Z (upd H T (.tup [.int (i:Int),v])) λZ2 H2=>tb {D with nx:=Pv (i+1),ct:=Pv (i+1),bk:=D.nx} Z2 H2) (hd:∀Z H,Pv xs.length Z H->D.nx Z H):LoopI (ItE K a xs) g tb D Z H:=
 dv Pv h0 hl (λi Z H T ys _ p hT hy=>by obtain⟨v,hv,rfl⟩:=hy;exact hs i v Z H T hv p hT) hd
end
structure Zap (z TI TO i1 i2 l1 l2:Addr):Prop where
 a1:TI≠z/\TO≠z/\i1≠z/\i2≠z/\l1≠z/\l2≠z
 a2:TI≠TO/\TI≠i1/\TI≠i2/\TO≠i1/\TO≠i2/\i1≠i2
 a3:l1≠TO/\l2≠TO/\l1≠i2/\l2≠i1
section
variable {prog:Program}{w:World}{A:Around}{E:Value->Shared->Prop}{s:Shared}
variable {z TI TO i1 i2 l1 l2:Addr}{n1 n2 k:Nat}{P1 P2:Nat->Value->Prop}{S1 S2:Nat->Heap->Prop}
theorem still {it l b:Addr}{n i:Nat}{P:Nat->Value->Prop}{S:Nat->Heap->Prop}{h h':Heap}(D:Draws prog w A it [it,l] n P S)(st:S i h)(e:Heap.ExtBut b h h')(h1:it≠b)(h2:l≠b):S i h':=
 D.frame i h h' st λc hc o q=>e c o (by rcases mem_cons.mp hc with rfl|hc;exact h1;rw[mem_singleton.mp hc];exact h2) q
theorem zw (hh:A.handled=none)(d1:∀A:Around,A.handled=none->Draws prog w A i1 [i1,l1] n1 P1 S1)(d2:∀A:Around,A.handled=none->Draws prog w A i2 [i2,l2] n2 P2 S2)(ap:Zap z TI TO i1 i2 l1 l2){a b:Value}{Q:Value->Shared->Prop}
  (hz:IsZip s.heap z TI TO .none) (hTI:IsPair s.heap TI (.ref i1) (.ref i2)) (hTO:IsPair s.heap TO a b) (t1:S1 k s.heap) (t2:S2 k s.heap) (k1:k < n1) (k2:k < n2)
  (q:∀x y h' tk,P1 k x->P2 k y->IsZip h' z TI TO (rawInt s.heap.objs.size)->IsPair h' TO x y->S1 (k+1) h'->S2 (k+1) h'->IsPair h' s.heap.objs.size x y ->
   (∀c o,c≠z->c≠TO->c≠i1->c≠i2->s.heap.get? c=some o->h'.get? c=some o)->Q (.ref s.heap.objs.size) {s with heap:=h',toks:=tk}) :
  wpAny (model prog w) A (Builtin.«zip.__next__» ⟨[.ref z],[]⟩) (λfin s'=>∃v,fin=.done (.ret v)/\Q v s') E s:=by
 obtain⟨⟨p1,p2,p3,p4,p5,p6⟩,⟨q1,q2,q3,q4,q5,q6⟩,r1,r2,r3,r4⟩:=ap;show wpAny _ _ (field (.ref z) 2 >>= _) _ _ s;refine wpAny_bind (wpAny_field (s:=s) hz rfl (x:=.bool false) rfl ?_);show wpAny _ _ (field (.ref z) 3 >>= _) _ _ s;refine wpAny_bind (wpAny_field (s:=s) hz rfl (x:=.ref TI) rfl (wpAny_bind (wpAny_seqItems hTI rfl ?_)));show wpAny _ _ (Builtin.SmallTypes.ownedTupleIsFree (.ref z) >>= _) _ _ s;unfold Builtin.SmallTypes.ownedTupleIsFree;refine wpAny_bind (wpAny_bind (wpAny_field (s:=s) hz rfl (x:=.none) rfl (wpAny_pure ?_)));simp only[if_true];refine wpAny_bind (wpAny_rule (wpAny_bind (wpAny_field (s:=s) hz rfl (x:=.ref TO) rfl (wpAny_bind (wpAny_setField_rec hz (by simp) λha za sa=>?_)))));replace za:IsZip ha z TI TO .ellipsis:=za;simp only[List.zipIdx_cons,List.zipIdx_nil,forIn_cons,List.forIn_nil];refine wpAny_bind (wpAny_bind (wpAny_bind (wpAny_onRaise ?_)));show wpAny _ _ (Builtin.SmallTypes.nextOf (.ref i1) >>= _) _ _ _;refine wpAny_bind ((d1 A hh).item k _ _ _ k1 (still (d1 A hh) t1 sa.extBut p3 p5) λx hb tb px EW sb=>wpAny_pure ?_);have ob:IsPair hb TO a b:=sb.extBut _ _ q4 (sa.extBut _ _ p2 hTO);refine wpAny_bind (wpAny_seqItems ob rfl (wpAny_bind (wpAny_updateSeq_pair ob λhc oc sc=>wpAny_bind (wpAny_letGo (wpAny_pure ?_)))));replace oc:IsPair hc TO x b:=oc;refine wpAny_bind (wpAny_bind (wpAny_onRaise ?_));show wpAny _ _ (Builtin.SmallTypes.nextOf (.ref i2) >>= _) _ _ _;have ld:S2 k hc:=still (d2 A hh) (still (d2 A hh) (still (d2 A hh) t2 sa.extBut p4 p6) sb.extBut q6.symm r4) sc.extBut q5.symm r2;refine wpAny_bind ((d2 A hh).item k _ _ _ k2 ld λy hd td py BT sd=>wpAny_pure ?_);have od:IsPair hd TO x b:=sd.extBut _ _ q5 oc;refine wpAny_bind (wpAny_seqItems od rfl (wpAny_bind (wpAny_updateSeq_pair od λhe oe se=>wpAny_bind (wpAny_letGo (wpAny_pure (wpAny_pure ?_))))));replace oe:IsPair he TO x y:=oe;refine wpAny_bind (wpAny_seqItems oe rfl (wpAny_bind (wpAny_newTuple ?_)));have ze:IsZip he z TI TO .ellipsis:=se.extBut _ _ p2.symm (sd.extBut _ _ p4.symm (sc.extBut _ _ p2.symm (sb.extBut _ _ p3.symm za)));have dl:he.objs.size=s.heap.objs.size:=by rw[se.1,sd.1,sc.1,sb.1,sa.1]
 have ke:∀c o,c≠z->c≠TO->c≠i1->c≠i2->s.heap.get? c=some o->he.get? c=some o:=λc o c1 c2 c3 c4 e=>se.extBut _ _ c2 (sd.extBut _ _ c4 (sc.extBut _ _ c2 (sb.extBut _ _ c3 (sa.extBut _ _ c1 e))));have Cl:S1 (k+1) he:=still (d1 A hh) (still (d1 A hh) (still (d1 A hh) EW sc.extBut q4.symm r1) sd.extBut q6 r3) se.extBut q4.symm r1;have mt:S2 (k+1) he:=still (d2 A hh) BT se.extBut q5.symm r2;have zl:z < he.objs.size:=Heap.lt_size ze;show wpAny _ _ (Builtin.SmallTypes.ownedTupleHandOut (.ref z) (.ref he.objs.size) >>= _) _ _ _;unfold Builtin.SmallTypes.ownedTupleHandOut;have zf:IsZip (he.push {cls:=.type "tuple",data:=.seq #[x,y]}) z TI TO .ellipsis:=Heap.get?_push_of_some _ ze;refine wpAny_bind (wpAny_bind (wpAny_setField_rec zf (by simp) λhf zg sf=>?_));replace zg:IsZip hf z TI TO (rawInt he.objs.size):=zg;refine wpAny_setField_rec zg (by simp) λhg zh sg=>?_;replace zh:IsZip hg z TI TO (rawInt he.objs.size):=zh;have up:∀c o,c≠z->he.get? c=some o->hg.get? c=some o:=λc o c1 e=>sg.extBut _ _ c1 (sf.extBut _ _ c1 (Heap.get?_push_of_some _ e));have tg:IsPair hg he.objs.size x y:=sg.extBut _ _ (Nat.ne_of_gt zl) (sf.extBut _ _ (Nat.ne_of_gt zl) (Heap.get?_push_size _ rfl));rw[dl] at zh tg;refine wpAny_pure ⟨_,rfl,?_⟩;show Q (.ref he.objs.size) _;rw[dl];exact q x y hg td px py zh (up _ _ p2 oe) ((d1 A hh).frame _ _ _ Cl λc hc o e=>up c o (by rcases mem_cons.mp hc with rfl|hc;exact p3;rw[mem_singleton.mp hc];exact p5) e) ((d2 A hh).frame _ _ _ mt λc hc o e=>up c o (by rcases mem_cons.mp hc with rfl|hc;exact p4;rw[mem_singleton.mp hc];exact p6) e) tg λc o c1 c2 c3 c4 e=>up c o c1 (ke c o c1 c2 c3 c4 e)
theorem zx (hh:A.handled=none)(d1:∀A:Around,A.handled=none->Draws prog w A i1 [i1,l1] n1 P1 S1)(d2:∀A:Around,A.handled=none->Draws prog w A i2 [i2,l2] n2 P2 S2)(ap:Zap z TI TO i1 i2 l1 l2){a b:Value}{Q:Fin->Shared->Prop}
  (hz:IsZip s.heap z TI TO .none) (hTI:IsPair s.heap TI (.ref i1) (.ref i2)) (hTO:IsPair s.heap TO a b) (t1:S1 k s.heap) (t2:S2 k s.heap) (hk:k=n1\/(k < n1/\k=n2))
  (q:∀h' e tk,(∀c o,c≠z->c≠TO->c≠i1->c≠i2->s.heap.get? c=some o->h'.get? c=some o)->(∃o,h'.get? e=some o/\o.cls=.type "StopIteration")->E (.ref e) {s with heap:=h',toks:=tk}) :
  wpAny (model prog w) A (Builtin.«zip.__next__» ⟨[.ref z],[]⟩) Q E s:=by
 obtain⟨⟨p1,p2,p3,p4,p5,p6⟩,⟨q1,q2,q3,q4,q5,q6⟩,r1,r2,r3,r4⟩:=ap;show wpAny _ _ (field (.ref z) 2 >>= _) _ _ s;refine wpAny_bind (wpAny_field (s:=s) hz rfl (x:=.bool false) rfl ?_);show wpAny _ _ (field (.ref z) 3 >>= _) _ _ s;refine wpAny_bind (wpAny_field (s:=s) hz rfl (x:=.ref TI) rfl (wpAny_bind (wpAny_seqItems hTI rfl ?_)));show wpAny _ _ (Builtin.SmallTypes.ownedTupleIsFree (.ref z) >>= _) _ _ s;unfold Builtin.SmallTypes.ownedTupleIsFree;refine wpAny_bind (wpAny_bind (wpAny_field (s:=s) hz rfl (x:=.none) rfl (wpAny_pure ?_)));simp only[if_true];refine wpAny_bind (wpAny_rule (wpAny_bind (wpAny_field (s:=s) hz rfl (x:=.ref TO) rfl (wpAny_bind (wpAny_setField_rec hz (by simp) λha za sa=>?_)))));replace za:IsZip ha z TI TO .ellipsis:=za;simp only[List.zipIdx_cons,List.zipIdx_nil,forIn_cons,List.forIn_nil];refine wpAny_bind (wpAny_bind (wpAny_bind (wpAny_onRaise ?_)));show wpAny _ _ (Builtin.SmallTypes.nextOf (.ref i1) >>= _) _ _ _;rcases hk with rfl|⟨k1,rfl⟩
 .refine wpAny_bind ((d1 A hh).done _ _ _ (still (d1 A hh) t1 sa.extBut p3 p5) λhb e sb W'=>?_);obtain⟨oe,ho,hc⟩:=W';have zb:IsZip hb z TI TO .ellipsis:=sb _ _ p3.symm za;have ez:e≠z:=λy=>by subst y;rw[zb] at ho;cases ho;simp at hc
  exact wpAny_setField_rec zb (by simp) λhd _ sd=>q hd e _ (λc o c1 _ c3 _ y=>sd.extBut _ _ c1 (sb _ _ c3 (sa.extBut _ _ c1 y))) ⟨oe,sd.extBut _ _ ez ho,hc⟩
 refine wpAny_bind ((d1 A hh).item _ _ _ _ k1 (still (d1 A hh) t1 sa.extBut p3 p5) λx hb tb px mt sb=>wpAny_pure ?_);have ob:IsPair hb TO a b:=sb.extBut _ _ q4 (sa.extBut _ _ p2 hTO);refine wpAny_bind (wpAny_seqItems ob rfl (wpAny_bind (wpAny_updateSeq_pair ob λhc oc sc=>wpAny_bind (wpAny_letGo (wpAny_pure ?_)))));refine wpAny_bind (wpAny_bind (wpAny_onRaise ?_));show wpAny _ _ (Builtin.SmallTypes.nextOf (.ref i2) >>= _) _ _ _;have ld:=still (d2 A hh) (still (d2 A hh) (still (d2 A hh) t2 sa.extBut p4 p6) sb.extBut q6.symm r4) sc.extBut q5.symm r2;refine wpAny_bind ((d2 A hh).done _ _ _ ld λhd e sd W'=>?_);obtain⟨oe,ho,dl⟩:=W';have zd:IsZip hd z TI TO .ellipsis:=sd _ _ p4.symm (sc.extBut _ _ p2.symm (sb.extBut _ _ p3.symm za));have ez:e≠z:=λy=>by subst y;rw[zd] at ho;cases ho;simp at dl
 exact wpAny_setField_rec zd (by simp) λhf _ sf=>q hf e _ (λc o c1 c2 c3 c4 y=>sf.extBut _ _ c1 (sd _ _ c4 (sc.extBut _ _ c2 (sb.extBut _ _ c3 (sa.extBut _ _ c1 y))))) ⟨oe,sf.extBut _ _ ez ho,dl⟩
theorem zy (hh:A.handled=none)(d1:∀A:Around,A.handled=none->Draws prog w A i1 [i1,l1] n1 P1 S1)(d2:∀A:Around,A.handled=none->Draws prog w A i2 [i2,l2] n2 P2 S2)(ap:Zap z TI TO i1 i2 l1 l2) :
  WalksT prog w A z [z,TI,TO,i1,i2,l1,l2] [z,TO,i1,i2] (min n1 n2) (λi vals=>∃x y,P1 i x/\P2 i y/\vals=#[x,y])
   (λi h=>IsZip h z TI TO .none/\IsPair h TI (.ref i1) (.ref i2)/\(∃a b,IsPair h TO a b)/\S1 i h/\S2 i h)
   (λi T h=>IsZip h z TI TO (rawInt T)/\IsPair h TI (.ref i1) (.ref i2)/\(∃a b,IsPair h TO a b)/\S1 (i+1) h/\S2 (i+1) h/\T≠z/\T≠TO/\T≠i1/\T≠i2) where
 sub:=λc hc=>by simp at hc ⊢;rcases hc with rfl|rfl|rfl|rfl <;> simp
 frame:=λi h h' st hk=>by obtain⟨hz,hTI,⟨a,b,hTO⟩,t1,t2⟩:=st;exact⟨hk z (by simp) _ hz,hk TI (by simp) _ hTI,⟨a,b,hk TO (by simp) _ hTO⟩,(d1 A hh).frame _ _ _ t1 λc hc o e=>hk c (by simp at hc ⊢;rcases hc with rfl|rfl <;> simp) o e,(d2 A hh).frame _ _ _ t2 λc hc o e=>hk c (by simp at hc ⊢;rcases hc with rfl|rfl <;> simp) o e⟩
 item:=λi s Q E hi st hQ=>by
  obtain⟨hz,hTI,⟨a,b,hTO⟩,t1,t2⟩:=st;have hT:s.TypeIs (.ref z) "zip" := ⟨_,hz,rfl⟩;have lt:∀{c o},s.heap.get? c=some o->s.heap.objs.size≠c:=λe=>Nat.ne_of_gt (Heap.lt_size e);unfold pyNext;refine wpAny_bind (wpAny_attempt (wpAny_callSpecial?_slot (name:=ofString "__next__") hT F.slot_zip_next (wpAny_call_entry F.slot_zip_next hT F.entry_zip_next ?_ (F.args_zip_next_1 _))));refine zw (A:=A.in1) hh d1 d2 ap hz hTI hTO t1 t2 (Nat.lt_of_lt_of_le hi (Nat.min_le_left ..)) (Nat.lt_of_lt_of_le hi (Nat.min_le_right ..)) λx y h' tk px py z' o' s1 s2 T' hk=>wpAny_pure ?_;obtain⟨o1,e1⟩:=(d1 A hh).live _ _ t1;obtain⟨o2,e2⟩:=(d2 A hh).live _ _ t2;exact hQ s.heap.objs.size #[x,y] h' tk ⟨x,y,px,py,rfl⟩ (Nat.le_refl _) ⟨_,T',rfl,_,rfl⟩
   ⟨z',hk _ _ ap.a1.1 ap.a2.1 ap.a2.2.1 ap.a2.2.2.1 hTI,⟨_,_,o'⟩,s1,s2,lt hz,lt hTO,lt e1,lt e2⟩
   λc o hc e=>hk c o (λy=>hc (by simp[y])) (λy=>hc (by simp[y])) (λy=>hc (by simp[y])) (λy=>hc (by simp[y])) e
 go:=λelts k pos i T s Q E hm hQ=>by obtain⟨hz,hTI,⟨a,b,hTO⟩,t1,t2,_⟩:=hm;obtain⟨⟨p1,p2,p3,p4,p5,p6⟩,_⟩:=ap;exact wpAny_letOwnedTupleGo_zip hz λh' z' s'=>hQ h' ⟨z',s'.extBut _ _ p1 hTI,⟨a,b,s'.extBut _ _ p2 hTO⟩,still (d1 A hh) t1 s'.extBut p3 p5,still (d2 A hh) t2 s'.extBut p4 p6⟩ λc o hc e=>s'.extBut _ _ (λy=>hc (by simp[y])) e
 apart:=λi T h hm hT=>by
  obtain⟨_,_,_,_,_,t1,t2,t3,t4⟩:=hm;simp only[mem_cons,not_mem_nil,or_false] at hT;rcases hT with h|h|h|h
  .exact t1 h
  .exact t2 h
  .exact t3 h
  .exact t4 h
 done:=λs Q E st hQ=>by obtain⟨hz,hTI,⟨a,b,hTO⟩,t1,t2⟩:=st;have hT:s.TypeIs (.ref z) "zip" := ⟨_,hz,rfl⟩;unfold pyNext;refine wpAny_bind (wpAny_attempt (wpAny_callSpecial?_slot (name:=ofString "__next__") hT F.slot_zip_next (wpAny_call_entry F.slot_zip_next hT F.entry_zip_next ?_ (F.args_zip_next_1 _))));refine zx (A:=A.in1) hh d1 d2 ap hz hTI hTO t1 t2 (by lia) λh' e tk hk W'=>?_;obtain⟨o,ho,hc⟩:=W';refine wpAny_bind (wpAny_isInstance (T := "StopIteration") (b:=true) ⟨o,ho,hc⟩ isSubtype_stop (wpAny_pure (hQ h' tk λc o hc e=>?_)));exact hk c o (λy=>hc (by simp[y])) (λy=>hc (by simp[y])) (λy=>hc (by simp[y])) (λy=>hc (by simp[y])) e
 self:=λi s Q E st hQ=>wpAny_pyIter_zip st.1 hQ
end
noncomputable abbrev zA (h:Heap)(a:Addr):Heap:=h.push (titO a)
noncomputable abbrev zB (h:Heap)(a b:Addr):Heap:=(zA h a).push (titO b)
noncomputable abbrev zC (h:Heap)(a b:Addr):Heap:=(zB h a b).push {cls:=.type "tuple",data:=.seq #[.ref h.objs.size,.ref (zA h a).objs.size]}
noncomputable abbrev zD (h:Heap)(a b:Addr):Heap:=(zC h a b).push {cls:=.type "tuple",data:=.seq #[.none,.none]}
noncomputable abbrev zE (h:Heap)(a b:Addr):Heap:=(zD h a b).push {cls:=.type "zip",data:=.fields #[.none,.bool false,.bool false,.ref (zB h a b).objs.size,.ref (zC h a b).objs.size]}
theorem zz (a b:Addr)(xs ys:Array Value):Meets (Builtin.«zip.__new__» ⟨[.type "zip",.ref a,.ref b],[]⟩) (λ_ R s=>s.heap.IsTuple a xs/\s.heap.IsTuple b ys/\R (.ok (.ret (.ref (zD s.heap a b).objs.size))) {s with heap:=zE s.heap a b}):=
 .of_wp λprog w A R s h=>by
  obtain⟨hp,g,d,tk,os⟩:=s;obtain⟨ha,hb,h⟩:=h;have hsub:=sub_zip;have h1:Heap.IsTuple (Shared.heap ⟨hp,g,d,tk,os⟩) a xs:=ha;have h2:Heap.IsTuple (Shared.heap ⟨hp.push (titO a),g,d,tk,os⟩) b ys:=Heap.IsTuple.push hb _
  wp_walk using wpAny_pyIter_tuple h1,wpAny_pyIter_tuple h2
  exact⟨_,rfl,h⟩
section
variable {prog:Program}{w:World}{A:Around}{E:Value->Shared->Prop}{s:Shared}
theorem A0 {a b:Addr}{xs ys:Array Value}{Q:Value->Shared->Prop}(ha:s.heap.IsTuple a xs)(hb:s.heap.IsTuple b ys)
  (h:∀h',IsZip h' (s.heap.objs.size+4) (s.heap.objs.size+2) (s.heap.objs.size+3) .none->IsPair h' (s.heap.objs.size+2) (.ref s.heap.objs.size) (.ref (s.heap.objs.size+1))->IsPair h' (s.heap.objs.size+3) .none .none ->
   h'.IsTupleIter s.heap.objs.size a 0->h'.IsTupleIter (s.heap.objs.size+1) b 0->(∀c o,s.heap.get? c=some o->h'.get? c=some o)->Q (.ref (s.heap.objs.size+4)) {s with heap:=h' }) :
  wpAny (model prog w) A (call (.type "zip") [.ref a,.ref b]) Q E s:=by
 refine callType_new F.called_zip (by decide) (F.typeCall_zip_2 _ _) (F.newCall_zip_2 _ _) (λdl=>F.args_object_init_3 dl _ _) F.entry_zip_new (zz a b xs ys) ⟨ha,hb,?_⟩;have y1:(zA s.heap a).objs.size=s.heap.objs.size+1:=Heap.size_push ..;have y2:(zB s.heap a b).objs.size=s.heap.objs.size+2:=by rw[Heap.size_push,y1]
 have y3:(zC s.heap a b).objs.size=s.heap.objs.size+3:=by rw[Heap.size_push,y2]
 have y4:(zD s.heap a b).objs.size=s.heap.objs.size+4:=by rw[Heap.size_push,y3]
 have up:∀{h:Heap}{o:Obj}{c:Addr}{u:Obj},h.get? c=some u->(h.push o).get? c=some u:=λe=>Heap.get?_push_of_some _ e;have e5:(zE s.heap a b).get? (zD s.heap a b).objs.size=some _:=Heap.get?_push_size _ rfl;have e4:(zE s.heap a b).get? (zC s.heap a b).objs.size=some _:=up (Heap.get?_push_size _ rfl);have e3:(zE s.heap a b).get? (zB s.heap a b).objs.size=some _:=up (up (Heap.get?_push_size _ rfl));have e2:(zE s.heap a b).get? (zA s.heap a).objs.size=some _:=up (up (up (Heap.get?_push_size _ rfl)));have e1:(zE s.heap a b).get? s.heap.objs.size=some _:=up (up (up (up (Heap.get?_push_size _ rfl))));show _/\_;rw[y2,y3,y4] at e5;rw[y1,y2] at e3;rw[y3] at e4;rw[y1] at e2;rw[y4];exact⟨⟨_,e5,rfl⟩,h _ e5 e3 e4 ⟨_,e1,rfl,rfl⟩ ⟨_,e2,rfl,rfl⟩ λc o x=>up (up (up (up (up x))))⟩
end
noncomputable def ItZ (K:W.Frag)(a b:Addr)(xs ys:List V):It:=ItW (min xs.length ys.length) (λH=>SqT K H a xs/\SqT K H b ys) λi _ vs=>∃x y,xs[i]?=some x/\ys[i]?=some y/\vs=[x,y]
theorem A1 {P:Program}{w:World}{K:W.Frag}{elts:List Expr}{k:Nat}{pos:Pos}{z TI TO i1 i2 a b:Addr}(xs ys:List V)(ap:Zap z TI TO i1 i2 a b)(h1:a≠i1)(h2:b≠i2) :
  Turn P w K (.Tuple elts k pos) (ItZ K a b xs ys) [z,TO,i1,i2,TI] z (λi h=>IsZip h z TI TO .none/\IsPair h TI (.ref i1) (.ref i2)/\(∃u v,IsPair h TO u v)/\h.IsTupleIter i1 a i/\h.IsTupleIter i2 b i):=by
 refine du (fp:=[z,TI,TO,i1,i2,a,b]) (wr:=[z,TO,i1,i2]) (α:={ q:Array Value×Array Value // q.1.size=xs.length/\q.2.size=ys.length}) (Pt:=λq i dl=>∃x y,q.1.1[i]?=some x/\q.1.2[i]?=some y/\dl=#[x,y])
  (Sn:=λq i h=>IsZip h z TI TO .none/\IsPair h TI (.ref i1) (.ref i2)/\(∃a b,IsPair h TO a b)/\(h.IsTupleIter i1 a i/\h.IsTuple a q.1.1)/\(h.IsTupleIter i2 b i/\h.IsTuple b q.1.2))
  (Mid:=λq i T h=>IsZip h z TI TO (rawInt T)/\IsPair h TI (.ref i1) (.ref i2)/\(∃a b,IsPair h TO a b)/\(h.IsTupleIter i1 a (i+1)/\h.IsTuple a q.1.1)/\(h.IsTupleIter i2 b (i+1)/\h.IsTuple b q.1.2)/\T≠z/\T≠TO/\T≠i1/\T≠i2)
  (by simp) (λb hb=>by simp at hb ⊢;rcases hb with rfl|rfl|rfl|rfl <;> simp) (λA q hh=>?_) (λA i s Q E st q=>wpAny_pyIter_zip st.1 q) (λi h st b hb=>?_) (λi h h' st kp=>?_) ?_ (λq i h st=>⟨st.1,st.2.1,st.2.2.1,st.2.2.2.1.1,st.2.2.2.2.1⟩)
 .have:=zy (prog:=P) (w:=w) (A:=A) hh (λB hB=>gU (prog:=P) (w:=w) (A:=B) hB i1 a h1 q.1.1) (λB hB=>gU (prog:=P) (w:=w) (A:=B) hB i2 b h2 q.1.2) ap;rw[q.2.1,q.2.2] at this;exact this
 .obtain⟨hz,hI,⟨u,v,hO⟩,⟨o1,e1,c1,d1⟩,o2,e2,c2,d2⟩:=st;simp only[mem_cons,not_mem_nil,or_false] at hb;rcases hb with rfl|rfl|rfl|rfl|rfl
  .exact⟨_,hz,λv z=>by cases z⟩
  .exact⟨_,hO,λv z=>by cases z⟩
  .exact⟨o1,e1,λv z=>by rw[d1] at z;cases z⟩
  .exact⟨o2,e2,λv z=>by rw[d2] at z;cases z⟩
  .exact⟨_,hI,λv z=>by cases z⟩
 .obtain⟨hz,hI,⟨u,v,hO⟩,⟨o1,e1,r1⟩,o2,e2,r2⟩:=st;exact⟨kp z (by simp) _ hz,kp TI (by simp) _ hI,⟨u,v,kp TO (by simp) _ hO⟩,⟨o1,kp i1 (by simp) _ e1,r1⟩,o2,kp i2 (by simp) _ e2,r2⟩
 .intro X hP hw hK i EX s Z H J hf st EW;subst hP hw hK;obtain⟨l1,mt,p1,EZ⟩:=J.tuple EW.1;obtain⟨l2,ld,p2,EY⟩:=J.tuple EW.2;refine⟨⟨(l1.toArray,l2.toArray),by have:=mt.length;simp;lia,by have:=ld.length;simp;lia⟩,⟨st.1,st.2.1,st.2.2.1,⟨st.2.2.2.1,p1⟩,st.2.2.2.2,p2⟩,?_⟩;rintro dl ⟨x,y,hx,hy,rfl⟩;have Cl:l1[i]?=some x:=by simpa using hx
  have BT:l2[i]?=some y:=by simpa using hy
  have hi:i < xs.length:=by have:=mt.length;have:=(List.getElem?_eq_some_iff.mp Cl).1;lia
  have hj:i < ys.length:=by have:=ld.length;have:=(List.getElem?_eq_some_iff.mp BT).1;lia
  obtain⟨u,hu,ru⟩:=mt.get (List.getElem?_eq_getElem hi);obtain⟨v,hv,rv⟩:=ld.get (List.getElem?_eq_getElem hj);rw[Cl] at hu;rw[BT] at hv;cases hu;cases hv;exact⟨[xs[i],ys[i]],(show 2<=sizeLine by decide),.cons ru (.cons rv .nil),xs[i],ys[i],List.getElem?_eq_getElem hi,List.getElem?_eq_getElem hj,rfl⟩
section
variable {X:Cx}{K:W.Frag}{elts:List Expr}{kk:Nat}{tpos:Pos}
theorem A2 {n a b:Nat}(ha:a < n)(hb:b < n):Zap (n+4) (n+2) (n+3) n (n+1) a b:=by refine⟨⟨?_,?_,?_,?_,?_,?_⟩,⟨?_,?_,?_,?_,?_,?_⟩,?_,?_,?_,?_⟩ <;> (show ¬ ((_:Nat)=_)) <;> lia
def iZip (K:W.Frag)(ta:TA):TI:=λZ H R=>ta Z H λvs H1=>∃a b xs ys,vs=[.ref a,.ref b]/\SqT K H1 a xs/\SqT K H1 b ys/\R (ItZ K a b xs ys) H1
theorem gW {a b:Expr}{ta:TA}{p pos:Pos}(h:X.K=K)(hg:Gl X "zip")(hm:X.mg "zip"=none)(ha:PA X [a,b] ta)(hs:starEach [a,b] X.env=[(false,eval a X.env),(false,eval b X.env)]:=by rfl)(hs2:starEach [b] X.env=[(false,eval b X.env)]:=by rfl):PI X (.Tuple elts kk tpos) (.Call (.Name "zip" p) [a,b] [] pos) (iZip K ta):=by
 subst h;intro dl s Z H R I q;refine Call_ (az I hg hm boot_zip (PyProof.Rows.callWith_type1 (thn (ha pos dl s Z H _ I q) λus s1 W'=>?_) (by rw[hs,hs2]) (by rw[hs2];rfl)));obtain⟨vs,H1,I1,r1,q1⟩:=W';obtain⟨a,b,xs,ys,e,EX,EW,q⟩:=q1;subst e;obtain⟨u,v,rfl,ru,rv⟩:=vals2 r1;cases ru;cases rv;obtain⟨l1,EZ,p1,Fb⟩:=I1.tuple EX;obtain⟨l2,EY,p2,Fa⟩:=I1.tuple EW;refine A0 (show s1.heap.IsTuple a l1.toArray from p1) (show s1.heap.IsTuple b l2.toArray from p2) λh' he hI hO hi hj hk=>?_;refine wpAny_pyIter_zip (s:={ s1 with heap:=h' }) he ?_;have Cl:a < s1.heap.objs.size:=by obtain⟨o,ho,_⟩:=p1;exact Heap.lt_size ho
 have mt:b < s1.heap.objs.size:=by obtain⟨o,ho,_⟩:=p2;exact Heap.lt_size ho
 have ld:Inv X dl Z H1 {s1 with heap:=h' }:=I1.kept (t':=s1.toks) hk;refine⟨s1.heap.objs.size+4,[s1.heap.objs.size+4,s1.heap.objs.size+3,s1.heap.objs.size,s1.heap.objs.size+1,s1.heap.objs.size+2],_,_,H1,rfl,ld,A1 xs ys (A2 Cl mt) (Nat.ne_of_lt Cl) (Nat.ne_of_lt (Nat.lt_succ_of_lt mt)),⟨he,hI,⟨_,_,hO⟩,hi,hj⟩,λb hb=>?_,q⟩;simp only[mem_cons,not_mem_nil,or_false] at hb;have BT:s1.heap.objs.size<=b:=by
  rcases hb with rfl|rfl|rfl|rfl|rfl
  .exact Nat.le_add_right _ _
  .exact Nat.le_add_right _ _
  .exact Nat.le_refl _
  .exact Nat.le_add_right _ _
  .exact Nat.le_add_right _ _
 exact I1.fpOk BT (I1.hok.fresh BT)
variable {Z:St}{H:Hp}{D:Ends}{g:TG}{tb:TS}{aa:TA}
theorem A3:(tFor (iZip K aa) g tb D Z H)=(aa Z H λvs H1=>∃a b xs ys,vs=[.ref a,.ref b]/\SqT K H1 a xs/\SqT K H1 b ys/\LoopI (ItZ K a b xs ys) g tb D Z H1):=rfl
theorem A4 {a b:Addr}{xs ys:List V}(Pv:Nat->St->Hp->Prop)(h0:Pv 0 Z H)(hl:∀i Z H,i<=min xs.length ys.length->Pv i Z H->SqT K H a xs/\SqT K H b ys)
  (hs:∀i x y Z H T,xs[i]?=some x->ys[i]?=some y->Pv i Z H->H T=none->g (.ref T) Z (upd H T (.tup [x,y])) λZ2 H2=>tb {D with nx:=Pv (i+1),ct:=Pv (i+1),bk:=D.nx} Z2 H2) (hd:∀Z H,Pv (min xs.length ys.length) Z H->D.nx Z H):LoopI (ItZ K a b xs ys) g tb D Z H:=
 dv Pv h0 hl (λi Z H T zs _ p hT hy=>by obtain⟨x,y,hx,hy,rfl⟩:=hy;exact hs i x y Z H T hx hy p hT) hd
variable {p:Addr}{fv:St}{tt:TT}{te:TE}{Q:VK}{H1:Hp}{fr:Tq}
theorem A5:(tComp2 K (iZip K aa) fr tt te Z H Q)=(aa Z H λvs H1=>∃a b xs ys,vs=[.ref a,.ref b]/\SqT K H1 a xs/\SqT K H1 b ys/\∀p,H1 p=none->CompI2 K (ItZ K a b xs ys) p (frV Z fr) tt te Q H1):=rfl
theorem A6 {a b:Addr}{xs ys zs:List V}(hxs:SqT K H1 a xs)(hys:SqT K H1 b ys)(hlen:zs.length<=sizeLine)(hp:H1 p=none)(hz:zs.length=min xs.length ys.length)
  (he:∀(i:Nat) (x y z:V),xs[i]?=some x->ys[i]?=some y->zs[i]?=some z->∀(H':Hp) (T:VK),Same H1 H'->(∀H'',Same H' H''->T z H'')->te (some x::some y::fv) H' T)
  (hQ:∀H',Same H1 H'->H' p=some (.lst zs)->Q (.ref p) H'):CompI2 K (ItZ K a b xs ys) p fv tYes te Q H1:=by
 refine⟨λi m ws H2=>m=zs.length - i/\i<=zs.length/\ws=zs.take i/\H2 p=some (.lst ws)/\Same H1 H2,⟨zs.length,by simp,Nat.zero_le _,by simp,aC,λb o e=>by rw[aE (aJ e hp)];exact e⟩,?_⟩;rintro i m ws H2 ⟨rfl,hi,rfl,dl,sm⟩;refine⟨dl,?_⟩;have qx:=sm.tup hxs;have qy:=sm.tup hys;by_cases ld:i < zs.length
 .refine .inr ⟨⟨by rw[<- hz];exact ld,qx,qy⟩,by rw[length_take];lia,λx H3 y=>?_⟩;obtain⟨T,vs,rfl,hT,rfl,x,y,hx,hy,rfl⟩:=y;have s3:Same H2 (upd H2 T (.tup [x,y])):=λb o e=>by rw[aE (aJ e hT)];exact e
  refine⟨T,x,y,rfl,.inl (.inl aC),?_⟩;unfold tYes;dsimp only;rw[if_pos rfl];have mt:zs[i]?=some zs[i]:=by simp[ld]
  refine he i x y _ hx hy mt _ _ (sm.trans s3) λH5 s5=>⟨s5 _ _ (s3 _ _ dl),zs.length - (i+1),by lia,rfl,ld,?_,aC,λb o e=>?_⟩
  .rw[take_add_one,mt];rfl
  .rw[aE (aJ e hp)];exact s5 _ _ (s3 _ _ (sm _ _ e))
 .have e:i=zs.length:=by lia
  subst e;refine .inl ⟨⟨hz,qx,qy⟩,hQ H2 sm ?_⟩;rw[dl,take_length]
end
section
variable {p:Addr}{fv:St}{tt:TT}{te:TE}{Q:VK}{H1 H:Hp}{fr:Tq}{aa:TA}{Z:St}
theorem A7:(tComp (iRng1 aa) fr tt te Z H Q)=(aa Z H λvs H1=>∃j:Int,vs=[.int j]/\-(2 ^ 62)<=j/\j < 2 ^ 62/\∀p,H1 p=none->CompI (Itr 0 j.toNat) p (frV Z fr) tt te Q H1):=rfl
theorem A8 {n:Nat}(J:Nat->List V->Hp->Prop)(hlen:n<=sizeLine)(h0:J 0 [] (upd H1 p (.lst [])))
  (he:∀(i:Nat) (ys:List V) (H2:Hp) (T:VK),i < n->J i ys H2->H2 p=some (.lst ys)->(∀y H3,H3 p=some (.lst ys)->J (i+1) (ys++[y]) (upd H3 p (.lst (ys++[y])))->T y H3)->te (some (.int (0+(i:Int)))::fv) H2 T)
  (hQ:∀ys H2,J n ys H2->H2 p=some (.lst ys)->Q (.ref p) H2):CompI (Itr 0 n) p fv tYes te Q H1:=by
 refine⟨λi m ys H2=>m=n - i/\i<=n/\ys.length=i/\H2 p=some (.lst ys)/\J i ys H2,⟨n,by simp,Nat.zero_le _,rfl,aC,h0⟩,?_⟩;rintro i m ys H2 ⟨rfl,hi,mt,dl,hJ⟩;refine⟨dl,?_⟩;by_cases ld:i < n
 .refine .inr ⟨ld,by lia,λx H3 y=>?_⟩;obtain⟨rfl,rfl⟩:=y;unfold tYes;dsimp only;rw[if_pos rfl];exact he i ys _ _ ld hJ dl λy H5 BT Cl=>⟨BT,n - (i+1),by lia,rfl,ld,by rw[length_append,mt];rfl,aC,Cl⟩
 .have e:i=n:=by lia
  subst e;exact .inl ⟨Nat.le_refl _,hQ ys H2 hJ dl⟩
end
noncomputable abbrev litO (t:Addr):Obj:={ cls:=.type "list_iterator",data:=.fields #[.ref t,.int 0 0]}
section
variable {prog:Program}{w:World}{A:Around}{E:Value->Shared->Prop}{s:Shared}
end
section
variable {X:Cx}{K:W.Frag}{elts:List Expr}{kk:Nat}{tpos:Pos}
variable {Z:St}{H:Hp}{D:Ends}{g:TG}{tb:TS}{aa:TA}
variable {p:Addr}{fv:St}{tt:TT}{te:TE}{Q:VK}{H1:Hp}{fr:Tq}
end
section
variable {K:W.Frag}{p:Addr}{fv:St}{te:TE}{Q:VK}{H1:Hp}
end
theorem A9 (t:Addr)(its:Array Value):Meets (Builtin.«enumerate.__new__» ⟨[.type "enumerate",.ref t],[]⟩) (λ_ R s=>s.heap.IsList t its/\
  R (.ok (.ret (.ref (s.heap.push (litO t)).objs.size))) {s with heap:=(s.heap.push (litO t)).push (enuO s.heap.objs.size)}):=
 .of_wp λprog w A R s h=>by
  obtain⟨hp,g,d,tk,os⟩:=s;obtain⟨hl,h⟩:=h;have hsub:=sub_enumerate
  wp_walk using wpAny_pyIter_list hl
  refine wpAny_stack_any λ_=>wpAny_pure ?_;split
  .rename_i z _ _ _ _ _;cases (z == Value.type "enumerate") <;> (wp_walk using wpAny_pyIter_list hl) <;> exact⟨_,rfl,h⟩
  .wp_walk using wpAny_pyIter_list hl
   exact⟨_,rfl,h⟩
section
variable {prog:Program}{w:World}{A:Around}{E:Value->Shared->Prop}{s:Shared}
theorem Aa {t:Addr}{its:Array Value}{Q:Value->Shared->Prop}(ht:s.heap.IsList t its)
  (h:∀h',IsEnum h' (s.heap.objs.size+1) s.heap.objs.size 0 .none->h'.IsListIter s.heap.objs.size t 0->(∀b o,s.heap.get? b=some o->h'.get? b=some o)->Q (.ref (s.heap.objs.size+1)) {s with heap:=h' }) :
  wpAny (model prog w) A (call (.type "enumerate") [.ref t]) Q E s:=by
 refine callType_new F.called_enumerate (by decide) (F.typeCall_enumerate_1 _) (F.newCall_enumerate_1 _) (λdl=>F.args_object_init_2 dl _) F.entry_enumerate_new (A9 t its) ⟨ht,?_⟩;have hz:(s.heap.push (litO t)).objs.size=s.heap.objs.size+1:=Heap.size_push ..;show _/\_;rw[hz];have he:IsEnum ((s.heap.push (litO t)).push (enuO s.heap.objs.size)) (s.heap.objs.size+1) s.heap.objs.size 0 .none:=by have:=Heap.get?_push_size (s.heap.push (litO t)) (o:=enuO s.heap.objs.size) rfl;rw[hz] at this;exact this
 exact⟨⟨_,he,rfl⟩,h _ he ⟨_,Heap.get?_push_of_some _ (Heap.get?_push_size _ rfl),rfl,rfl⟩ λb o x=>Heap.get?_push_of_some _ (Heap.get?_push_of_some _ x)⟩
end
noncomputable def ItEL (K:W.Frag)(a:Addr)(xs:List V):It:=ItW xs.length (λH=>SqL K H a xs) λi _ ys=>∃v,xs[i]?=some v/\ys=[.int (i:Int),v]
theorem Ab {P:Program}{w:World}{K:W.Frag}{elts:List Expr}{k:Nat}{pos:Pos}(a it e:Addr)(xs:List V)(h1:a≠it)(h2:e≠it)(h3:e≠a) :
  Turn P w K (.Tuple elts k pos) (ItEL K a xs) [e,it] e (λi h=>(∃old,IsEnum h e it i old)/\h.IsListIter it a i):=by
 refine du (fp:=e::[it,a]) (α:={ ld:Array Value // ld.size=xs.length}) (Pt:=λz i dl=>∃t x,z.1[i]?=some x/\dl=#[.int i t,x])
  (Sn:=λz i h=>(∃old,IsEnum h e it i old)/\(h.IsListIter it a i/\h.IsList a z.1)) (Mid:=λz i T h=>(∃x,IsEnumOut h e it ((i:Int)+1) x T)/\(h.IsListIter it a (i+1)/\h.IsList a z.1)/\T≠e/\T≠it)
  (by simp) (λ_ z=>z) (λA z hh=>?_) (λA i s Q E st q=>?_) (λi h st b hb=>?_) (λi h h' st kp=>?_) ?_ (λz i h st=>⟨st.1,st.2.1⟩)
 .have:=WalksT.enumerateD (Draws.list (prog:=P) (w:=w) (A:=A.in1) hh it a h1 z.1) e h2 (by simp[h2,h3]) (by simp);rw[z.2] at this;exact this
 .obtain⟨⟨old,he⟩,_⟩:=st;exact wpAny_pyIter_enum he q
 .obtain⟨⟨old,he⟩,o,ho,hc,hd⟩:=st;rcases mem_cons.mp hb with rfl|hb
  .exact⟨_,he,λv z=>by cases z⟩
  .rw[mem_singleton.mp hb];exact⟨o,ho,λv z=>by rw[hd] at z;cases z⟩
 .obtain⟨⟨old,he⟩,o,ho,r⟩:=st;exact⟨⟨old,kp e (by simp) _ he⟩,o,kp it (by simp) o ho,r⟩
 .intro X hP hw hK i BT s Z H J hf st Cl;subst hP hw hK;obtain⟨ld,rv,p,hz⟩:=J.list Cl;refine⟨⟨ld.toArray,by have:=rv.length;simp;lia⟩,⟨st.1,st.2,p.isList⟩,?_⟩;rintro dl ⟨t,x,hx,rfl⟩;have mt:ld[i]?=some x:=by simpa using hx
  have hi:i < xs.length:=by have:=rv.length;have:=(List.getElem?_eq_some_iff.mp mt).1;lia
  obtain⟨u,hu,ru⟩:=rv.get (List.getElem?_eq_getElem hi);rw[mt] at hu;cases hu;exact⟨[.int (i:Int),xs[i]],(show 2<=sizeLine by decide),.cons ⟨t,rfl⟩ (.cons ru .nil),xs[i],List.getElem?_eq_getElem hi,rfl⟩
section
variable {X:Cx}{K:W.Frag}{elts:List Expr}{kk:Nat}{tpos:Pos}
def iEnumL (K:W.Frag)(ta:TA):TI:=λZ H R=>ta Z H λvs H1=>∃a xs,vs=[.ref a]/\SqL K H1 a xs/\R (ItEL K a xs) H1
theorem gX {a:Expr}{ta:TA}{p pos:Pos}(h:X.K=K)(hg:Gl X "enumerate")(hm:X.mg "enumerate"=none)(ha:PA X [a] ta)(hs:starEach [a] X.env=[(false,eval a X.env)]:=by rfl):PI X (.Tuple elts kk tpos) (.Call (.Name "enumerate" p) [a] [] pos) (iEnumL K ta):=by
 subst h;intro dl s Z H R I q;refine Call_ (az I hg hm boot_enumerate (PyProof.Rows.callWith_type1 (thn (ha pos dl s Z H _ I q) λus s1 W'=>?_) hs rfl));obtain⟨vs,H1,I1,r1,q1⟩:=W';obtain⟨a,xs,e,hq,q⟩:=q1;subst e;obtain⟨u,rfl,ru⟩:=vals1 r1;cases ru;obtain⟨Cl,rv,pt,hz⟩:=I1.list hq;refine Aa pt.isList λh' he hi hk=>?_;refine wpAny_pyIter_enum (s:={ s1 with heap:=h' }) he ?_;have BT:a < s1.heap.objs.size:=by obtain⟨o,_,ho,_⟩:=pt;exact Heap.lt_size ho
 have ld:Inv X dl Z H1 {s1 with heap:=h' }:=I1.kept (t':=s1.toks) hk;refine⟨s1.heap.objs.size+1,[s1.heap.objs.size+1,s1.heap.objs.size],_,_,H1,rfl,ld,Ab a s1.heap.objs.size (s1.heap.objs.size+1) xs (Nat.ne_of_lt BT) (Nat.succ_ne_self _) (Nat.ne_of_gt (Nat.lt_succ_of_lt BT)),⟨⟨_,he⟩,hi⟩,λb hb=>?_,q⟩;simp only[mem_cons,not_mem_nil,or_false] at hb;have mt:s1.heap.objs.size<=b:=by
  rcases hb with rfl|rfl
  .exact Nat.le_succ _
  .exact Nat.le_refl _
 exact I1.fpOk mt (I1.hok.fresh mt)
variable {Z:St}{H:Hp}{D:Ends}{g:TG}{tb:TS}{aa:TA}
theorem Ac:(tFor (iEnumL K aa) g tb D Z H)=(aa Z H λvs H1=>∃a xs,vs=[.ref a]/\SqL K H1 a xs/\LoopI (ItEL K a xs) g tb D Z H1):=rfl
theorem gY {a:Addr}{xs:List V}(Pv:Nat->St->Hp->Prop)(h0:Pv 0 Z H)(hl:∀i Z H,i<=xs.length->Pv i Z H->SqL K H a xs)
  (hs:∀i v Z H T,xs[i]?=some v->Pv i Z H->H T=none->g (.ref T) Z (upd H T (.tup [.int (i:Int),v])) λZ2 H2=>tb {D with nx:=Pv (i+1),ct:=Pv (i+1),bk:=D.nx} Z2 H2) (hd:∀Z H,Pv xs.length Z H->D.nx Z H):LoopI (ItEL K a xs) g tb D Z H:=
 dv Pv h0 hl (λi Z H T ys _ p hT hy=>by obtain⟨v,hv,rfl⟩:=hy;exact hs i v Z H T hv p hT) hd
variable {p:Addr}{fv:St}{tt:TT}{te:TE}{Q:VK}{H1:Hp}{fr:Tq}
end
end L2
namespace L2
open PySem PySem.Spec PySem.W PyProof.Rows
end L2
namespace L2
open PySem PySem.Spec PySem.W PySem.Calls PyProof.Rows PySem.Builtin PySem.Builtin.ObjectAttr
noncomputable def errTail:List Value->Bool
 |.ref _::r=>errTail r
 |l=>l == vErr
noncomputable def overErr (K:Frag)(C:Addr):Bool:=(clsIn K C).any λcd=>errTail cd.mro
section
variable {prog:Program}{w:World}{A:Around}{E:Value->Shared->Prop}{s:Shared}{K:Frag}{x C:Addr}{name:Str}{v:Value}{ox:Obj}{od:Option Obj}
end
end L2
namespace L2
open PySem PySem.Spec PySem.W PySem.Calls PyProof.Rows
noncomputable abbrev newExc (C t:Addr):Obj:={ cls:=.ref C,data:=.fields #[.ref t,.none,.none,.none,.bool false,.none]}
section
variable {prog:Program}{w:World}{A:Around}{E:Value->Shared->Prop}{h:Heap}{g:Array GenState}{d:Drawn}{t:Nat}{os:OsState}
variable {nm q:Str}{C N:Addr}{bs bm bmB:List Value}{hdct:Bool}{sn:List Str}{sub:List Value}{ab:Bool}{col:Option Bool}{dd:Option Addr}{k0 k1 k2 k3 k5:Option Value}{B newId initId:String}
end
structure ExSt (K:Frag)(C:Addr)(f:Str):Prop where
 sa:findIn K (.ref C) "__setattr__"=some (some (.builtin "object.__setattr__"))
 po:overErr K C=true
 na:findIn K (.ref C) f=some none
 hd:hasDictIn K C=true
section
variable {X:Cx}{ta tv:TE}{o value:Expr}{f:Str}{pos pos':Pos}
end
structure FlownN (P:Program)(w:World)(base:Heap)(outer:List Env)(H:Hp)(s:Shared)(a t C:Addr)(d:Option Addr)(B:Heap)(H':Hp)(s':Shared):Prop where
 f:Flown P w base outer H s a t C B H' s'
 dc:∀x,d=some x->∃oe,s'.heap.get? a=some oe/\oe.dict=some x
section
variable {P:Program}{w:World}{K:Frag}{mg:Str->Option Value}{base:Heap}{N:List Str}{qual:Str}{scope:Scope}{f:Addr}{cd:Value}{A:Around}{outer:List Env}{s:Shared}{H:Hp}{E:XK}
end
structure Mk1 (K:Frag)(C f:Addr):Prop where
 ex:excInJ K C vErr vNew (some (.ref f))=true
 fn:isFn K (.ref f)=true
 kp:keepIn K (.ref C)=true
end L2
namespace L2
open PySem PySem.Spec PySem.W PySem.Calls PyProof.Rows PySem.Builtin PySem.Builtin.ObjectAttr
section
variable {prog:Program}{w:World}{A:Around}{E:Value->Shared->Prop}{hh:Heap}{g:Array GenState}{dr:Drawn}{t:Nat}{os:OsState}{K:Frag}{a C:Addr}{o:Obj}{od:Option Obj}{name:Str}{v:Value}
end
structure ExFld (K:Frag)(C:Addr)(f:Str):Prop where
 look:ExLook K C
 na:findIn K (.ref C) f=some none
 hd:hasDictIn K C=true
end L2
namespace L2
open PySem PySem.Spec PySem.W PySem.Calls PyProof.Rows
section
variable {P:Program}{w:World}{K:Frag}{mg:Str->Option Value}{base:Heap}{j k:Nat}{A:Around}{outer:List Env}{s:Shared}{H:Hp}{E:XK}
structure RoomU (k:Nat)(A:Around):Prop where
 dp:A.depth+3 * k+5 < recursionLimit
 un:A.units+16 * k+200 < cLine
structure FnU (P:Program)(w:World)(K:Frag)(mg:Str->Option Value)(base:Heap)(k:Nat)(f:Addr)(fd:FuncData)(ps:List Str)(sp:Sp):Prop where
 len:∀vs H Q E,sp vs H Q E->vs.length=ps.length
 go:∀(A:Around) (outer:List Env) (s:Shared) (H:Hp) (args:Args) (us:List Value) (vs:List V) (Q:VK) (E:XK),RoomU k A->Env0 P w K mg base A outer s H->BindsTo s fd args (ps.zip us)->Vals vs us->sp vs H Q E ->
  codeAny (model P w) A (.call (.ref f) args) (CR CX0 outer P w H s Q E) s
end
section
variable {X:Cx}
end
end L2
namespace L2
open PySem
end L2
namespace Wm
open PySem L2
noncomputable abbrev Rs (α:Type):=Except Nat (α×Nat)
noncomputable def mp {α β:Type}(f:α->β):Rs α->Rs β
 |.ok (a,n)=>.ok (f a,n)
 |.error n=>.error n
noncomputable def pre {α:Type}(c:α)(k:Nat):Rs (List α)->Rs (List α)
 |.ok (l,n)=>.ok (c::l,k+n)
 |.error n=>.error (k+n)
section
variable {α β γ:Type}
end
section
variable {t:Tq}{h:Option Tq}{d:Option Int}{w:Bool×List Tq×Bool}{q:Option (List (Tq×Option Tq))}{m:Option Tq}{n n1 n2 n3 n4 n5:Nat}
end
section
variable {r:Tq}{n:Nat}
end
section
variable {r:Tq}{n:Nat}
end
end Wm
namespace L2
open PySem PySem.Spec PyProof.Rows
section
variable {X:Cx}
def rStart1:V->List V->Hp->VK->Prop:=λx vs H Q=>∃z y:Tq,x=.str ⟨z.toArray⟩/\vs=[.str ⟨y.toArray⟩]/\Q (.bl (decide (z.take y.length=y))) H
def rEnd1:V->List V->Hp->VK->Prop:=λx vs H Q=>∃z y:Tq,x=.str ⟨z.toArray⟩/\vs=[.str ⟨y.toArray⟩]/\Q (.bl (decide (z.drop (z.length - y.length)=y))) H
theorem la (z y:Tq)(i:Nat):Builtin.Str.subAt ⟨z.toArray⟩ ⟨y.toArray⟩ i=decide ((z.drop i).take y.length=y):=by unfold Builtin.Str.subAt;have hl:(⟨y.toArray⟩:Str).length=y.length:=rfl;rw[hl,Bool.eq_iff_iff,beq_iff_eq,decide_eq_true_eq];show (z.toArray.extract i (i+y.length)=y.toArray)↔_;rw[<- Array.toList_inj];simp
theorem Ae (z y:Tq):(decide (0+(⟨y.toArray⟩:Str).length<=(⟨z.toArray⟩:Str).length) && Builtin.Str.subAt ⟨z.toArray⟩ ⟨y.toArray⟩ 0)=decide (z.take y.length=y):=by
 rw[la,drop_zero];show (decide (0+y.length<=z.length) && _)=_;by_cases h:z.take y.length=y
 .have:=congrArg List.length h;rw[length_take] at this;rw[decide_eq_true h,decide_eq_true (show 0+y.length<=z.length by lia)];rfl
 .rw[decide_eq_false h,Bool.and_false]
theorem Af (z y:Tq):(decide (0+(⟨y.toArray⟩:Str).length<=(⟨z.toArray⟩:Str).length) && Builtin.Str.subAt ⟨z.toArray⟩ ⟨y.toArray⟩ ((⟨z.toArray⟩:Str).length - (⟨y.toArray⟩:Str).length))=decide (z.drop (z.length - y.length)=y):=by
 rw[la];show (decide (0+y.length<=z.length) && decide ((z.drop (z.length - y.length)).take y.length=y))=_;have e:(z.drop (z.length - y.length)).length<=y.length->(z.drop (z.length - y.length)).take y.length=z.drop (z.length - y.length):=λh=>take_of_length_le h;rw[e (by rw[length_drop];lia)];by_cases h:z.drop (z.length - y.length)=y
 .have:=congrArg List.length h;rw[length_drop] at this;rw[decide_eq_true h,decide_eq_true (show 0+y.length<=z.length by lia)];rfl
 .rw[decide_eq_false h,Bool.and_false]
theorem lh:MtR X "str.startswith" rStart1:=by intro dl s Z H x vs v us Q I rx rv h;obtain⟨z,y,rfl,rfl,q⟩:=h;obtain⟨t,rfl⟩:=rx;obtain⟨u,rfl,t',rfl⟩:=vals1 rv;refine call_meets F.slot_str_startswith (typeIs_str _ _ _) F.entry_str_startswith (F.args_str_startswith_2 _ _) (gives_str_startswith _ _ t t').meets ?_;refine⟨.bl _,H,I,rfl,?_⟩;rw[<- Ae] at q;exact q
theorem Ag:MtR X "str.endswith" rEnd1:=by intro dl s Z H x vs v us Q I rx rv h;obtain⟨z,y,rfl,rfl,q⟩:=h;obtain⟨t,rfl⟩:=rx;obtain⟨u,rfl,t',rfl⟩:=vals1 rv;refine call_meets F.slot_str_endswith (typeIs_str _ _ _) F.entry_str_endswith (F.args_str_endswith_2 _ _) (gives_str_endswith _ _ t t').meets ?_;refine⟨.bl _,H,I,rfl,?_⟩;rw[<- Af] at q;exact q
theorem li {z y:Tq}{H:Hp}{Q:VK}:rStart1 (.str ⟨z.toArray⟩) [.str ⟨y.toArray⟩] H Q↔Q (.bl (decide (z.take y.length=y))) H:=
 ⟨λ⟨z',y',e1,e2,h⟩=>by
  injection e1 with e1;injection e1 with e1;injection e2 with e2;injection e2 with e2;injection e2 with e2;have h1:z=z':=by simpa using congrArg Array.toList e1
  have h2:y=y':=by simpa using congrArg Array.toList e2
  subst h1 h2;exact h,λh=>⟨z,y,rfl,rfl,h⟩⟩
theorem Ah {z y:Tq}{H:Hp}{Q:VK}:rEnd1 (.str ⟨z.toArray⟩) [.str ⟨y.toArray⟩] H Q↔Q (.bl (decide (z.drop (z.length - y.length)=y))) H:=
 ⟨λ⟨z',y',e1,e2,h⟩=>by
  injection e1 with e1;injection e1 with e1;injection e2 with e2;injection e2 with e2;injection e2 with e2;have h1:z=z':=by simpa using congrArg Array.toList e1
  have h2:y=y':=by simpa using congrArg Array.toList e2
  subst h1 h2;exact h,λh=>⟨z,y,rfl,rfl,h⟩⟩
end
end L2
namespace L2
open PySem
section
variable {p:Addr}{fv:St}{tt:TT}{te:TE}{Q:VK}{H1:Hp}{K:W.Frag}
end
end L2
namespace Wm
open PySem L2
inductive Pc
 |step (s:Tq)
 |part (h n t:Tq)
 |num (n:Tq)
 |word (n:Tq)
 |gap (n:Tq)
 |rest (n:Tq)
noncomputable abbrev tV (l:Tq):V:=.str ⟨l.toArray⟩
noncomputable def Pc.kw:Pc->Str
 |.step _=>ofString "step"
 |.part ..=>ofString "part"
 |.num _=>ofString "number"
 |.word _=>ofString "word"
 |.gap _=>ofString "gap"
 |.rest _=>ofString "rest"
noncomputable def Pc.tl:Pc->List V
 |.step s=>[tV s]
 |.part h n t=>[tV h,tV n,tV t]
 |.num n=>[tV n]
 |.word n=>[tV n]
 |.gap n=>[tV n]
 |.rest n=>[tV n]
noncomputable def Pc.vals (c:Pc):List V:=.str c.kw::c.tl
noncomputable def Pc.name:Pc->Tq
 |.step _=>[]
 |.part _ n _=>n
 |.num n=>n
 |.word n=>n
 |.gap n=>n
 |.rest n=>n
noncomputable def Pc.head:Pc->Tq|.part h _ _=>h|_=>[]
noncomputable def Pc.tail:Pc->Tq|.part _ _ t=>t|_=>[]
noncomputable def Pc.isStep:Pc->Bool|.step _=>true|_=>false
noncomputable def Pc.isPart:Pc->Bool|.part ..=>true|_=>false
noncomputable def Pc.isNum:Pc->Bool|.num _=>true|_=>false
noncomputable def Pc.isWord:Pc->Bool|.word _=>true|_=>false
noncomputable def Pc.isRest:Pc->Bool|.rest _=>true|_=>false
theorem Pc.at0 (c:Pc):atI c.vals 0=some (.str c.kw):=a0 (j:=0) rfl
theorem cU (c:Pc):decide (c.kw=ofString "step")=c.isStep:=by cases c <;> first|exact decide_eq_true rfl|exact decide_eq_false (show ¬ (ofString _=ofString _) by fail "k")
theorem ao (c:Pc):decide (c.kw=ofString "part")=c.isPart:=by cases c <;> first|exact decide_eq_true rfl|exact decide_eq_false (show ¬ (ofString _=ofString _) by fail "k")
theorem bH (c:Pc):decide (c.kw=ofString "number")=c.isNum:=by cases c <;> first|exact decide_eq_true rfl|exact decide_eq_false (show ¬ (ofString _=ofString _) by fail "k")
theorem dw (c:Pc):decide (c.kw=ofString "word")=c.isWord:=by cases c <;> first|exact decide_eq_true rfl|exact decide_eq_false (show ¬ (ofString _=ofString _) by fail "k")
theorem bc (c:Pc):decide (c.kw=ofString "rest")=c.isRest:=by cases c <;> first|exact decide_eq_true rfl|exact decide_eq_false (show ¬ (ofString _=ofString _) by fail "k")
noncomputable def isFig (c:Nat):Bool:=decide (48<=c/\c<=57)
noncomputable def isSma (c:Nat):Bool:=decide (97<=c/\c<=122)
noncomputable def numB (l:Tq):Bool:=decide (1<=l.length) && decide (l.length<=60) && l.all isFig && (decide (l=[48]) || !decide (l.head?=some 48))
noncomputable def wordB (l:Tq):Bool:=decide (1<=l.length) && decide (l.length<=60) && l.all isSma
noncomputable def partB (h t s:Tq):Bool:=decide (s.take h.length=h) && (decide (s.drop (s.length - t.length)=t) && decide (h.length+t.length < s.length))
noncomputable def fitsM (c:Pc)(s:Tq):Bool:=!isDot s && match c with
 |.step w=>decide (s=w)
 |.part h _ t=>partB h t s
 |.num _=>numB s
 |.word _=>wordB s
 |.gap _=>true
 |.rest _=>true
inductive Vl
 |txt (l:Tq)
 |int (i:Int)
 |lst (ls:List Tq)
noncomputable def intOf (l:Tq):Int:=(PySem.intText? ⟨l.toArray⟩).getD 0
noncomputable def amid (h t s:Tq):Tq:=(s.drop h.length).take (s.length - t.length - h.length)
noncomputable def bvM (c:Pc)(ss:List Tq):Vl:=match c with
 |.rest _=>.lst ss
 |.num _=>.int (intOf (ss.headD []))
 |_=>.txt (amid c.head c.tail (ss.headD []))
def VlV (H:Hp):Vl->V->Prop
 |.txt l,v=>v=tV l
 |.int i,v=>v=.int i
 |.lst ls,v=>∃p,v=.ref p/\H p=some (.lst (ls.map tV))
theorem VlV.mono {H H':Hp}(s:Same H H'):∀{x:Vl}{v:V},VlV H x v->VlV H' x v
 |.txt _,_,h=>h
 |.int _,_,h=>h
 |.lst _,_,⟨p,e,h⟩=>⟨p,e,s _ _ h⟩
theorem Ai {l:Tq}(h:l.all isFig=true)(h0:1<=l.length)(h1:l.length<=60):PySem.intText? ⟨l.toArray⟩=some (intOf l):=by
 have e:=intText_digits (x:=⟨l.toArray⟩) (λc hc=>by have:=all_eq_true.mp h c (by simpa using hc);simpa [isFig] using this) (by intro z;simp at z;rw[z] at h0;simp at h0) (by show l.length<=4300;lia)
 unfold intOf;rw[e];rfl
inductive PcAll (K:W.Frag)(H:Hp):List Pc->List V->Prop
 |nil:PcAll K H [] []
 |cons {c:Pc}{p:Addr}{cs:List Pc}{xs:List V}:SqT K H p c.vals->PcAll K H cs xs->PcAll K H (c::cs) (.ref p::xs)
theorem PcAll.mono {K:W.Frag}{H H':Hp}(s:Same H H'){cs:List Pc}{xs:List V}(hh:PcAll K H cs xs):PcAll K H' cs xs:=by
 induction hh with
 |nil=>exact .nil
 |cons h r ih=>exact .cons (s.tup h) ih
theorem PcAll.length {K:W.Frag}{H:Hp}{cs:List Pc}{xs:List V}(hh:PcAll K H cs xs):xs.length=cs.length:=by
 induction hh with
 |nil=>exact rfl
 |cons _ r ih=>simp[ih]
theorem PcAll.get {K:W.Frag}{H:Hp}{cs:List Pc}{xs:List V}(hh:PcAll K H cs xs){i:Nat}{v:V}(e:xs[i]?=some v):∃c p,cs[i]?=some c/\v=.ref p/\SqT K H p c.vals:=by
 induction hh generalizing i with
 |nil=>cases e
 |cons h _ ih=>
  cases i with
  |zero=>cases e;exact⟨_,_,rfl,rfl,h⟩
  |succ i=>exact ih e
theorem PcAll.append {K:W.Frag}{H:Hp}{ds:List Pc}{ys:List V}(h2:PcAll K H ds ys){cs:List Pc}{xs:List V}(hh:PcAll K H cs xs):PcAll K H (cs++ds) (xs++ys):=by
 induction hh with
 |nil=>exact h2
 |cons h r ih=>exact .cons h ih
noncomputable def hasRest (cs:List Pc):Bool:=match cs.getLast? with
 |some c=>c.isRest
 |none=>false
noncomputable def smaL:Tq:=(ofString "abcdefghijklmnopqrstuvwxyz").cps.toList
theorem lj:∀c,c < 128->(c∈smaL↔isSma c=true):=by fail "k"
theorem lm:∀c∈smaL,c < 128:=by fail "k"
theorem lr (l:Tq):l.all isSma=l.all λc=>decide (c∈smaL):=by
 congr 1
 funext c
 by_cases h:c < 128
 .rw[Bool.eq_iff_iff,decide_eq_true_eq];exact (lj c h).symm
 .have h1:¬ c∈smaL:=λz=>h (lm c z);rw[decide_eq_false h1];unfold isSma;exact decide_eq_false (by lia)
theorem Aj (l:Tq):(l.all λc=>decide (c∈fgS))=l.all isFig:=by
 congr 1
 funext c
 unfold isFig;exact decide_eq_decide.mpr dk
theorem PcAll.last {K:W.Frag}{H:Hp}{cs:List Pc}{xs:List V}{c:Pc}(h:PcAll K H cs xs)(hc:cs.getLast?=some c):∃v,atI xs (-1)=some v/\∃p,v=.ref p/\SqT K H p c.vals:=by
 have hl:=h.length;have hn:cs≠[]:=by rintro rfl;cases hc
 have hp:=length_pos_iff.mpr hn;obtain⟨v,hx⟩:∃v,xs[cs.length - 1]?=some v:=⟨_,List.getElem?_eq_getElem (by lia)⟩;obtain⟨d,p,e1,e2,e3⟩:=h.get hx;rw[List.getLast?_eq_getElem?] at hc;rw[hc] at e1;cases e1;refine⟨v,?_,p,e2,e3⟩;have hg:xs.getLast?=some v:=by rw[List.getLast?_eq_getElem?,hl];exact hx
 have:=l8 (l:=xs) (λv=>v) hg;simpa using this
noncomputable def spreadM (cs:List Pc)(n:Nat):Option (List Pc):=if hasRest cs=true/\cs.length<=n then some (cs++(List.replicate (n - cs.length) (cs.drop (cs.length - 1))).flatten) else if n=cs.length then some cs else none
theorem bN (s:Tq):amid [] [] s=s:=by unfold amid;simp
noncomputable def fitsP (cs:List Pc)(cl r:Bool)(ss:List Tq)(e:Bool):Bool:=match spreadM cs ss.length with
 |none=>false
 |some ds=>r && decide (e=cl) && (List.zipWith fitsM ds ss).all id
noncomputable def boundM:List Pc->List Tq->List (Tq×Vl)
 |[],_=>[]
 |c::cs,ss=>(if c.isStep then [] else [(c.name,bvM c ss)])++boundM cs (ss.drop 1)
inductive BndV (H:Hp)(l:Addr):List (Tq×Vl)->List V->Prop
 |nil:BndV H l [] []
 |cons {n:Tq}{x:Vl}{p:Addr}{v:V}{bs:List (Tq×Vl)}{ys:List V}:H p=some (.tup [tV n,v])->VlV H x v->(∀q,v=.ref q->q≠l)->BndV H l bs ys->BndV H l ((n,x)::bs) (.ref p::ys)
theorem BndV.mono {H H':Hp}{l:Addr}(s:Same H H'){bs:List (Tq×Vl)}{ys:List V}(hh:BndV H l bs ys):BndV H' l bs ys:=by
 induction hh with
 |nil=>exact .nil
 |cons h v n r ih=>exact .cons (s _ _ h) (v.mono s) n ih
theorem VlV.upd {H:Hp}{l:Addr}{o:HO}:∀{x:Vl}{v:V},VlV H x v->(∀q,v=.ref q->q≠l)->VlV (L2.upd H l o) x v
 |.txt _,_,h,_=>h
 |.int _,_,h,_=>h
 |.lst _,_,⟨p,e,h⟩,hn=>⟨p,e,by rw[aE (hn p e)];exact h⟩
theorem BndV.upd {H:Hp}{l:Addr}{o:HO}{xs:List V}(hl:H l=some (.lst xs)){bs:List (Tq×Vl)}{ys:List V}(hh:BndV H l bs ys):BndV (L2.upd H l o) l bs ys:=by
 induction hh with
 |nil=>exact .nil
 |cons h v n r ih=>exact .cons (by rw[aE (fS h hl (by intro z;cases z))];exact h) (v.upd n) n ih
theorem BndV.snoc {H:Hp}{l:Addr}{n:Tq}{x:Vl}{p:Addr}{v:V}(h:H p=some (.tup [tV n,v]))(hv:VlV H x v)(hn:∀q,v=.ref q->q≠l){bs:List (Tq×Vl)}{ys:List V}(hh:BndV H l bs ys):BndV H l (bs++[(n,x)]) (ys++[.ref p]):=by
 induction hh with
 |nil=>exact .cons h hv hn .nil
 |cons a b c r ih=>exact .cons a b c ih
theorem BndV.length {H:Hp}{l:Addr}{bs:List (Tq×Vl)}{ys:List V}(hh:BndV H l bs ys):ys.length=bs.length:=by
 induction hh with
 |nil=>exact rfl
 |cons _ _ _ r ih=>simp[ih]
theorem lu:∀(cs:List Pc) (ss:List Tq),(boundM cs ss).length<=cs.length
 |[],_=>Nat.le_refl _
 |c::cs,ss=>by have:=lu cs (ss.drop 1);unfold boundM;rw[length_append];split <;> simp only[length_nil,length_cons] <;> lia
theorem lw:∀(cs:List Pc) (ss:List Tq) (i:Nat) (c:Pc),cs[i]?=some c->boundM (cs.take (i+1)) ss=boundM (cs.take i) ss++(if c.isStep then [] else [(c.name,bvM c (ss.drop i))])
 |[],ss,i,c,h=>by simp at h
 |d::cs,ss,0,c,h=>by cases h;show _++boundM (cs.take 0) (ss.drop 1)=boundM [] ss++_;simp[boundM]
 |d::cs,ss,i+1,c,h=>by have:=lw cs (ss.drop 1) i c (by simpa using h);show _++boundM (cs.take (i+1)) (ss.drop 1)=(_++boundM (cs.take i) (ss.drop 1))++_;rw[this,append_assoc,drop_drop,Nat.add_comm 1 i]
theorem lx {cs ds:List Pc}{n:Nat}(h:spreadM cs n=some ds):cs.length<=n/\∃es,ds=cs++es:=by
 unfold spreadM at h;split at h
 .rename_i hh;cases h;exact⟨hh.2,_,rfl⟩
 .split at h
  .rename_i hh;cases h;exact⟨by lia,[],by simp⟩
  .cases h
theorem dy {cs:List Pc}{cl r e:Bool}{ss:List Tq}(h:fitsP cs cl r ss e=true){i:Nat}{c:Pc}(hc:cs[i]?=some c):∃s,ss[i]?=some s/\fitsM c s=true:=by
 unfold fitsP at h;split at h
 .cases h
 .rename_i ds hd;obtain⟨hl,es,rfl⟩:=lx hd;have hi:=(List.getElem?_eq_some_iff.mp hc).1;have hs:ss[i]?=some ss[i]:=List.getElem?_eq_getElem (by lia);refine⟨_,hs,?_⟩;have ha:=(Bool.and_eq_true _ _▸h).2;have hz:(List.zipWith fitsM (cs++es) ss)[i]?=some (fitsM c ss[i]):=by rw[List.getElem?_zipWith,List.getElem?_append_left hi,hc,hs]
  exact all_eq_true.mp ha _ (mem_of_getElem? hz)
theorem gZ {n s:Tq}(h:fitsM (.num n) s=true):1<=s.length/\s.length<=60/\s.all isFig=true:=by unfold fitsM numB at h;simp only[Bool.and_eq_true,decide_eq_true_eq] at h;exact⟨h.2.1.1.1,h.2.1.1.2,h.2.1.2⟩
theorem Ak {h n t s:Tq}(hf:fitsM (.part h n t) s=true):(Pc.part h n t).head.length+(Pc.part h n t).tail.length<=s.length:=by unfold fitsM partB at hf;simp only[Bool.and_eq_true,decide_eq_true_eq] at hf;have:=hf.2.2.2;show h.length+t.length<=s.length;lia
theorem gb (xs:List V):cutV xs (some (-1)) none=xs.drop (xs.length - 1):=by
 unfold cutV;rw[HT.sIx_none];have e:HT.sIx xs.length 0 (some (-1))=xs.length - 1:=by unfold HT.sIx;simp only[if_pos (show (-1:Int) < 0 by decide)];lia
 rw[e,take_of_length_le (by rw[length_drop];lia)]
theorem PcAll.drop {K:W.Frag}{H:Hp}{cs:List Pc}{xs:List V}(h:PcAll K H cs xs)(i:Nat):PcAll K H (cs.drop i) (xs.drop i):=by
 induction h generalizing i with
 |nil=>rw[drop_nil,drop_nil];exact .nil
 |cons a r ih=>cases i with
  |zero=>exact .cons a r
  |succ i=>exact ih i
theorem PcAll.reps {K:W.Frag}{H:Hp}{cs:List Pc}{xs:List V}(h:PcAll K H cs xs):∀m:Nat,PcAll K H (List.replicate m cs).flatten (List.replicate m xs).flatten
 |0=>.nil
 |m+1=>by rw[replicate_succ,replicate_succ,flatten_cons,flatten_cons];exact (h.reps m).append h
theorem Al {α:Type}(xs:List α)(m:Nat)(h:xs.length<=1):(List.replicate m xs).flatten.length<=m:=by
 induction m with
 |zero=>simp
 |succ m ih=>rw[replicate_succ,flatten_cons,length_append];lia
def PcSz (cs:List Pc):Prop:=∀c∈cs,c.head.length<=100000/\c.tail.length<=100000
theorem Am {cs ds:List Pc}{n:Nat}(h:spreadM cs n=some ds):∀c∈ds,c∈cs:=by
 unfold spreadM at h;split at h
 .cases h;intro c hc;rcases mem_append.mp hc with hc|hc
  .exact hc
  .obtain⟨l,hl,hc⟩:=List.mem_flatten.mp hc;rw[List.eq_of_mem_replicate hl] at hc;exact mem_of_mem_drop hc
 .split at h
  .cases h;exact λc hc=>hc
  .cases h
theorem ly {cs ds:List Pc}{n:Nat}(h:spreadM cs n=some ds):ds.length=n:=by
 unfold spreadM at h;split at h
 .rename_i hh;cases h;have dl:cs≠[]:=by rintro rfl;exact absurd hh.1 (by decide)
  have hp:=length_pos_iff.mpr dl;have e:∀m,(List.replicate m (cs.drop (cs.length - 1))).flatten.length=m:=λm=>by
   induction m with
   |zero=>simp
   |succ m ih=>rw[replicate_succ,flatten_cons,length_append,ih,length_drop];lia
  rw[length_append,e];lia
 .split at h
  .rename_i hh;cases h;lia
  .cases h
theorem cV (xs:List V)(i:Nat):cutV xs (some (i:Int)) none=xs.drop i:=by
 unfold cutV;rw[HT.sIx_none,HT.sIx_nat];by_cases h:i<=xs.length
 .rw[Nat.min_eq_left h,take_of_length_le (by rw[length_drop];lia)]
 .rw[Nat.min_eq_right (by lia),List.drop_of_length_le (Nat.le_refl _),List.drop_of_length_le (by lia)];simp
theorem m5 (i:Int):∃c,atI smaL (i % 26)=some c/\isSma c=true:=by
 have h1:=Int.emod_nonneg i (show (26:Int)≠0 by decide);have h2:=Int.emod_lt_of_pos i (show (0:Int) < 26 by decide);have hl:smaL.length=26:=by fail "k"
 have h3:(i % 26).toNat < smaL.length:=by lia
 refine⟨smaL[(i % 26).toNat],?_,(lj _ (lm _ (getElem_mem h3))).mp (getElem_mem h3)⟩;have:=a0 (List.getElem?_eq_getElem h3);rw[Int.toNat_of_nonneg h1] at this;exact this
def PcOk:Pc->Prop
 |.step s=>0 < s.length/\s.length<=100/\(∀c∈s,isSg c=true)/\isDot s=false
 |.part h _ t=>h.length<=100/\t.length<=100/\(∀c∈h,isSg c=true)/\(∀c∈t,isSg c=true)/\h++t≠[]
 |_=>True
theorem An (s:Stp):inV (sV s) [sV [],sV sStay,sV sUp]=(decide (s=[]) || isDot s):=by
 have e:∀a:Stp,eqV (sV a) (sV s)=decide (s=a):=λa=>by show ((⟨a.toArray⟩:Str) == ⟨s.toArray⟩)=decide (s=a);rw[Bool.eq_iff_iff,beq_iff_eq,decide_eq_true_eq,aR];exact⟨Eq.symm,Eq.symm⟩
 have h:=l9 s;unfold inV at h ⊢;rw[any_cons,h,e]
theorem Ao (l:Tq)(d:Nat)(h:d≠46):isDot (l++[d])=false:=by
 refine l4.mpr ⟨λz=>?_,λz=>?_⟩
 .have:(l++[d]).getLast?=sUp.getLast?:=by rw[z]
  rw[List.getLast?_append] at this;exact h (by simpa [sUp] using this)
 .have:(l++[d]).getLast?=sStay.getLast?:=by rw[z]
  rw[List.getLast?_append] at this;exact h (by simpa [sStay] using this)
theorem layL {n:Nat}{ds:List PyData}(h:∀d∈ds,LayAt n d):LayAt (n+1) (.list ds):=by obtain⟨h1,h2⟩:=layAll h;exact⟨by simp only[PyData.canLay0,h1],by simp only[PyData.depth];lia⟩
noncomputable def vlD:Vl->PyData
 |.txt l=>st l
 |.int i=>.int i
 |.lst ls=>.list (ls.map st)
theorem gc {H:Hp}:∀(ls:List Tq),IsAll H (ls.map st) (ls.map tV)
 |[]=>.nil
 |l::ls=>.cons (.str _) (gc ls)
theorem VlV.is {H:Hp}:∀{x:Vl}{v:V},VlV H x v->Is H (vlD x) v
 |.txt l,_,h=>by cases h;exact .str _
 |.int i,_,h=>by cases h;exact .int _
 |.lst ls,_,⟨p,e,h⟩=>by cases e;exact .lst h (gc ls)
theorem dz {l:Tq}(h:l.all isSma=true):∀c∈l,isSg c=true:=λc hc=>by have:=all_eq_true.mp h c hc;simp only[isSma,decide_eq_true_eq] at this;simp only[isSg,Bool.and_eq_true,decide_eq_true_eq,Bool.not_eq_true',decide_eq_false_iff_not];lia
def PatOk (ps:List Pc):Prop:=(∀c∈ps,PcOk c)/\∀i c,ps[i]?=some c->c.isRest=true->i+1=ps.length
def NmAt (X:Int)(a k:Nat)(n:Tq):Prop:=∃d,n[a]?=some d/\atI smaL ((X+(k:Int)) % 26)=some d
theorem NmAt.app {X:Int}{a k:Nat}{n m:Tq}(h:NmAt X a k n):NmAt X a k (n++m):=by obtain⟨d,h1,h2⟩:=h;exact⟨d,by rw[List.getElem?_append_left (List.getElem?_eq_some_iff.mp h1).1];exact h1,h2⟩
theorem Ap:∀i,i < 26->∀j,j < 26->smaL[i]?=smaL[j]?->i=j:=by fail "k"
theorem Aq {X:Int}{a:Nat}{ns:List Tq}(h:∀(k:Nat) (n:Tq),ns[k]?=some n->NmAt X a k n)(hl:ns.length<=26):ns.Nodup:=by
 rw[nodup_iff_pairwise_ne,List.pairwise_iff_getElem];intro i j hi hj ld e;obtain⟨d,h1,h2⟩:=h i _ (List.getElem?_eq_getElem hi);obtain⟨d',h3,h4⟩:=h j _ (List.getElem?_eq_getElem hj);rw[e,h3] at h1;cases h1;have m1:=Int.emod_nonneg (X+(i:Int)) (show (26:Int)≠0 by decide);have m2:=Int.emod_lt_of_pos (X+(i:Int)) (show (0:Int) < 26 by decide);have m3:=Int.emod_nonneg (X+(j:Int)) (show (26:Int)≠0 by decide);have m4:=Int.emod_lt_of_pos (X+(j:Int)) (show (0:Int) < 26 by decide);have dl:∀{z:Int},0<=z->z < 26->atI smaL z=smaL[z.toNat]?:=λ{z} z0 z1=>by
  obtain⟨n,rfl⟩:=Int.eq_ofNat_of_zero_le z0;have hl:smaL.length=26:=by fail "k"
  have hn:n < smaL.length:=by lia
  rw[a0 (List.getElem?_eq_getElem hn),<- List.getElem?_eq_getElem hn];rfl
 rw[dl m1 m2] at h2;rw[dl m3 m4] at h4;have:=Ap _ (by lia) _ (by lia) (h2.trans h4.symm);lia
inductive PcT (H:Hp):List Pc->List V->Prop
 |nil:PcT H [] []
 |cons {c:Pc}{p:Addr}{cs:List Pc}{xs:List V}:H p=some (.tup c.vals)->PcT H cs xs->PcT H (c::cs) (.ref p::xs)
theorem PcT.mono {H H':Hp}(s:SameT H H'){cs:List Pc}{xs:List V}(hh:PcT H cs xs):PcT H' cs xs:=by
 induction hh with
 |nil=>exact .nil
 |cons h r ih=>exact .cons (s _ _ h) ih
theorem PcT.all {K:W.Frag}{H:Hp}{cs:List Pc}{xs:List V}(hh:PcT H cs xs):PcAll K H cs xs:=by
 induction hh with
 |nil=>exact .nil
 |cons h r ih=>exact .cons (.of h) ih
theorem PcT.length {H:Hp}{cs:List Pc}{xs:List V}(hh:PcT H cs xs):xs.length=cs.length:=by
 induction hh with
 |nil=>exact rfl
 |cons _ r ih=>simp[ih]
theorem PcT.append {H:Hp}{ds:List Pc}{ys:List V}(h2:PcT H ds ys){cs:List Pc}{xs:List V}(hh:PcT H cs xs):PcT H (cs++ds) (xs++ys):=by
 induction hh with
 |nil=>exact h2
 |cons h r ih=>exact .cons h ih
theorem PcT.take {H:Hp}:∀{cs:List Pc}{xs:List V} (n:Nat),PcT H cs xs->PcT H (cs.take n) (xs.take n)
 |_,_,0,_=>.nil
 |_,_,_+1,.nil=>.nil
 |_,_,n+1,.cons h r=>.cons h (PcT.take n r)
theorem PcT.drop {H:Hp}:∀{cs:List Pc}{xs:List V} (n:Nat),PcT H cs xs->PcT H (cs.drop n) (xs.drop n)
 |_,_,0,h=>h
 |_,_,_+1,.nil=>.nil
 |_,_,n+1,.cons _ r=>PcT.drop n r
theorem PcT.get {H:Hp}{cs:List Pc}{xs:List V}(hh:PcT H cs xs){i:Nat}{v:V}(e:xs[i]?=some v):∃c p,cs[i]?=some c/\v=.ref p/\H p=some (.tup c.vals):=by
 induction hh generalizing i with
 |nil=>cases e
 |cons h _ ih=>
  cases i with
  |zero=>cases e;exact⟨_,_,rfl,rfl,h⟩
  |succ i=>exact ih e
noncomputable def pcD (c:Pc):PyData:=.tuple (.str c.kw::match c with
 |.step s=>[st s]
 |.part h n t=>[st h,st n,st t]
 |.num n=>[st n]
 |.word n=>[st n]
 |.gap n=>[st n]
 |.rest n=>[st n])
theorem PcT.isT {H:Hp}:∀{cs:List Pc}{xs:List V},PcT H cs xs->IsTAll H (cs.map pcD) xs
 |_,_,.nil=>.nil
 |c::_,_,.cons h r=>by
  refine .cons ?_ (PcT.isT r);cases c with
  |step s=>exact .tup h (.cons (.str _) (.cons (.str _) .nil))
  |part a b d=>exact .tup h (.cons (.str _) (.cons (.str _) (.cons (.str _) (.cons (.str _) .nil))))
  |num n=>exact .tup h (.cons (.str _) (.cons (.str _) .nil))
  |word n=>exact .tup h (.cons (.str _) (.cons (.str _) .nil))
  |gap n=>exact .tup h (.cons (.str _) (.cons (.str _) .nil))
  |rest n=>exact .tup h (.cons (.str _) (.cons (.str _) .nil))
def PcSg (c:Pc):Prop:=(∀l,c=.step l->∀x∈l,isSg x=true)/\(∀h n t,c=.part h n t->(∀x∈h,isSg x=true)/\∀x∈t,isSg x=true)/\∀x∈c.name,isSg x=true
theorem m7 {c:Pc}(h:PcSg c):LayAt 1 (pcD c):=by
 have dl:∀s:Str,s∈[ofString "step",ofString "part",ofString "number",ofString "word",ofString "gap",ofString "rest"]->LayAt 0 (PyData.str s):=λs hs=>by
  have ld:∀s∈[ofString "step",ofString "part",ofString "number",ofString "word",ofString "gap",ofString "rest"],∀x∈s.cps.toList,isSg x=true:=by fail "k"
  exact LayAt.st (l:=s.cps.toList) (ld s hs)
 have one:∀(k:Str) (l:Tq),k∈[ofString "step",ofString "part",ofString "number",ofString "word",ofString "gap",ofString "rest"]->(∀x∈l,isSg x=true)->LayAt 1 (.tuple [.str k,st l]):=λk l hk hl=>LayAt.tup (n:=0) λd hd=>by
  simp only[mem_cons,not_mem_nil,or_false] at hd;rcases hd with rfl|rfl
  .exact dl k hk
  .exact LayAt.st hl
 cases c with
 |step s=>exact one _ s (by simp[Pc.kw]) (h.1 s rfl)
 |part a b d=>
  obtain⟨h1,h2⟩:=h.2.1 a b d rfl;refine LayAt.tup (n:=0) λx hx=>?_;simp only[mem_cons,not_mem_nil,or_false] at hx;rcases hx with rfl|rfl|rfl|rfl
  .exact dl _ (by simp[Pc.kw])
  .exact LayAt.st h1
  .exact LayAt.st h.2.2
  .exact LayAt.st h2
 |num n=>exact one _ n (by simp[Pc.kw]) h.2.2
 |word n=>exact one _ n (by simp[Pc.kw]) h.2.2
 |gap n=>exact one _ n (by simp[Pc.kw]) h.2.2
 |rest n=>exact one _ n (by simp[Pc.kw]) h.2.2
theorem m8 {cs:List Pc}(h:∀c∈cs,PcSg c):LayAt 2 (.list (cs.map pcD)):=layL λd hd=>by obtain⟨c,hc,rfl⟩:=mem_map.mp hd;exact m7 (h c hc)
theorem m9 {cs:List Pc}(h:∀c∈cs,PcSg c):LayAt 2 (.tuple (cs.map pcD)):=LayAt.tup λd hd=>by obtain⟨c,hc,rfl⟩:=mem_map.mp hd;exact m7 (h c hc)
end Wm
namespace L2
open PySem PySem.Spec PyProof.Rows
section
variable {p:Addr}{fv:St}{tt:TT}{te:TE}{Q:VK}{H H1:Hp}{K:W.Frag}
theorem Ar {l b:Addr}:rExtend (.ref l) [.ref b] H Q↔∃xs zs,H l=some (.lst xs)/\H b=some (.lst zs)/\xs.length+zs.length<=sizeLine/\Q .non (upd H l (.lst (xs++zs))):=by
 constructor
 .rintro⟨l',b',xs,zs,h1,h2,h3⟩;cases h1;cases h2;exact⟨xs,zs,h3⟩
 .rintro⟨xs,zs,h⟩;exact⟨l,b,xs,zs,rfl,rfl,h⟩
theorem As {tl:TE}{fr:Tq}{Z:St}:(tComp2 K (iList K tl) fr tt te Z H Q)=(tl Z H λx H1=>∃a,x=.ref a/\(∃xs,SqL K H1 a xs)/\∀p,H1 p=none->CompI2 K (Itl K a) p (frV Z fr) tt te Q H1):=rfl
theorem At {a:Addr}{xs:List V}(f:Nat->V×V)(t:Nat->Bool)(g:Nat->V)(hxs:SqL K H1 a xs)(hlen:xs.length<=sizeLine)(hp:H1 p=none)
  (hit:∀(i:Nat) (x:V) (H':Hp),xs[i]?=some x->Same H1 H'->∃b,x=.ref b/\SqT K H' b [(f i).1,(f i).2])
  (ht:∀(i:Nat),i < xs.length->∀(H':Hp) (R:Bool->Hp->Prop),Same H1 H'->(∀H'',Same H' H''->R (t i) H'')->tt (some (f i).1::some (f i).2::fv) H' R)
  (he:∀(i:Nat),i < xs.length->t i=true->∀(H':Hp) (T:VK),Same H1 H'->(∀H'',Same H' H''->T (g i) H'')->te (some (f i).1::some (f i).2::fv) H' T)
  (hQ:∀H',Same H1 H'->H' p=some (.lst (((List.range xs.length).filter t).map g))->Q (.ref p) H'):CompI2 K (Itl K a) p fv tt te Q H1:=by
 refine⟨λi m ys H2=>m=xs.length - i/\i<=xs.length/\ys=((List.range i).filter t).map g/\H2 p=some (.lst ys)/\Same H1 H2,⟨xs.length,by simp,Nat.zero_le _,by simp,aC,λb o e=>by rw[aE (aJ e hp)];exact e⟩,?_⟩;rintro i m ys H2 ⟨rfl,hi,rfl,ld,sm⟩;refine⟨ld,?_⟩;have q:=sm.seq hxs;by_cases dl:i < xs.length
 .refine .inr ⟨⟨xs,xs[i],q,by simp[dl]⟩,?_,λx H3 y=>?_⟩
  .rw[length_map];have:=length_filter_le t (List.range i);rw[length_range] at this;lia
  .obtain⟨rfl,y⟩:=y;have hc:=y xs q;obtain⟨b,rfl,hb⟩:=hit i x H3 hc sm;refine⟨b,_,_,rfl,hb,?_⟩;refine ht i dl _ _ sm λH4 s4=>?_;by_cases hf:t i=true
   .rw[if_pos hf];refine he i dl hf _ _ (sm.trans s4) λH5 s5=>⟨(s4.trans s5) _ _ ld,xs.length - (i+1),by lia,rfl,dl,?_,aC,λb o e=>?_⟩
    .rw[range_succ,filter_append,map_append];simp[hf]
    .rw[aE (aJ e hp)];exact (s4.trans s5) _ _ (sm _ _ e)
   .rw[if_neg hf];refine⟨xs.length - (i+1),by lia,rfl,dl,?_,s4 _ _ ld,sm.trans s4⟩;rw[range_succ,filter_append,map_append];simp[hf]
 .have e:i=xs.length:=by lia
  subst e;exact .inl ⟨⟨xs,q,Nat.le_refl _⟩,hQ H2 sm ld⟩
theorem mB {a:Addr}{xs:List V}(t:Nat->Bool)(g:Nat->V)(hxs:SqT K H1 a xs)(hlen:xs.length<=sizeLine)(hp:H1 p=none)
  (ht:∀(i:Nat) (x:V),xs[i]?=some x->∀(H':Hp) (R:Bool->Hp->Prop),Same H1 H'->(∀H'',Same H' H''->R (t i) H'')->tt (some x::fv) H' R)
  (he:∀(i:Nat) (x:V),xs[i]?=some x->t i=true->∀(H':Hp) (T:VK),Same H1 H'->(∀H'',Same H' H''->T (g i) H'')->te (some x::fv) H' T)
  (hQ:∀H',Same H1 H'->H' p=some (.lst (((List.range xs.length).filter t).map g))->Q (.ref p) H'):CompI (Itt K a) p fv tt te Q H1:=by
 refine⟨λi m ys H2=>m=xs.length - i/\i<=xs.length/\ys=((List.range i).filter t).map g/\H2 p=some (.lst ys)/\Same H1 H2,⟨xs.length,by simp,Nat.zero_le _,by simp,aC,λb o e=>by rw[aE (aJ e hp)];exact e⟩,?_⟩;rintro i m ys H2 ⟨rfl,hi,rfl,dl,sm⟩;refine⟨dl,?_⟩;have q:=sm.tup hxs;by_cases ld:i < xs.length
 .refine .inr ⟨⟨xs,xs[i],q,by simp[ld]⟩,?_,λx H3 y=>?_⟩
  .rw[length_map];have:=length_filter_le t (List.range i);rw[length_range] at this;lia
  .obtain⟨rfl,y⟩:=y;have hc:=y xs q;refine ht i x hc _ _ sm λH4 s4=>?_;by_cases hf:t i=true
   .rw[if_pos hf];refine he i x hc hf _ _ (sm.trans s4) λH5 s5=>⟨(s4.trans s5) _ _ dl,xs.length - (i+1),by lia,rfl,ld,?_,aC,λb o e=>?_⟩
    .rw[range_succ,filter_append,map_append];simp[hf]
    .rw[aE (aJ e hp)];exact (s4.trans s5) _ _ (sm _ _ e)
   .rw[if_neg hf];refine⟨xs.length - (i+1),by lia,rfl,ld,?_,s4 _ _ dl,sm.trans s4⟩;rw[range_succ,filter_append,map_append];simp[hf]
 .have e:i=xs.length:=by lia
  subst e;exact .inl ⟨⟨xs,q,Nat.le_refl _⟩,hQ H2 sm dl⟩
end
end L2
namespace Wm
open PySem L2
theorem gd {α β:Type}(f:α->Bool)(g:α->β)(d:β):∀(l:List α),((List.range l.length).filter λi=>(l[i]?.map f).getD false).map (λi=>(l[i]?.map g).getD d)=(l.filter f).map g
 |[]=>rfl
 |a::l=>by
  have ih:=gd f g d l;have e2:((((List.range l.length).map Nat.succ).filter λi=>(((a::l)[i]?).map f).getD false).map λi=>(((a::l)[i]?).map g).getD d)=(l.filter f).map g:=by rw[filter_map,map_map,<- ih];rfl
  rw[length_cons,range_succ_eq_map,filter_cons];by_cases hf:f a=true
  .rw[if_pos (by simp[hf]),map_cons,e2,filter_cons,if_pos hf,map_cons];rfl
  .rw[if_neg (by simp[hf]),e2,filter_cons,if_neg hf]
noncomputable def canD:PyData->Bool
 |.str s=>s.cps.toList.all isSg && decide (0 < s.length) && !isDot s.cps.toList
 |_=>false
noncomputable def txD:PyData->Tq
 |.str s=>s.cps.toList
 |_=>[]
noncomputable def isValD (c:Pc)(d:PyData):Bool:=match c with
 |.rest _=>match d with
  |.list ds=>decide (0 < ds.length) && ds.all canD
  |_=>false
 |.num _=>match d with
  |.int i=>decide (0<=i/\i < 10 ^ 60)
  |_=>false
 |.word _=>match d with
  |.str s=>wordB s.cps.toList
  |_=>false
 |.step _=>false
 |.part h _ t=>ftx d && !isDot (h++txD d++t)
 |.gap _=>ftx d && !isDot (txD d)
noncomputable def stpsD (c:Pc)(d:PyData):List Tq:=match c with
 |.rest _=>match d with
  |.list ds=>ds.map txD
  |_=>[]
 |.num _=>match d with
  |.int i=>[dg i]
  |_=>[]
 |.step s=>[s]
 |c=>[c.head++txD d++c.tail]
inductive VlsV (H:Hp):List (Tq×PyData)->List V->Prop
 |nil:VlsV H [] []
 |cons {n:Tq}{d:PyData}{p:Addr}{v:V}{vs:List (Tq×PyData)}{xs:List V}:H p=some (.tup [tV n,v])->Is H d v->VlsV H vs xs->VlsV H ((n,d)::vs) (.ref p::xs)
theorem VlsV.mono {H H':Hp}(s:Same H H'){vs:List (Tq×PyData)}{xs:List V}(hh:VlsV H vs xs):VlsV H' vs xs:=by
 induction hh with
 |nil=>exact .nil
 |cons h a r ih=>exact .cons (s _ _ h) (a.mono s) ih
theorem VlsV.length {H:Hp}{vs:List (Tq×PyData)}{xs:List V}(hh:VlsV H vs xs):xs.length=vs.length:=by
 induction hh with
 |nil=>exact rfl
 |cons _ _ r ih=>simp[ih]
theorem VlsV.get {H:Hp}{vs:List (Tq×PyData)}{xs:List V}(hh:VlsV H vs xs){i:Nat}{x:V}(e:xs[i]?=some x):∃n d p v,vs[i]?=some (n,d)/\x=.ref p/\H p=some (.tup [tV n,v])/\Is H d v:=by
 induction hh generalizing i with
 |nil=>cases e
 |cons h a _ ih=>
  cases i with
  |zero=>cases e;exact⟨_,_,_,_,rfl,rfl,h,a⟩
  |succ i=>exact ih e
theorem VlsV.append {H:Hp}{ws:List (Tq×PyData)}{ys:List V}(h2:VlsV H ws ys){vs:List (Tq×PyData)}{xs:List V}(hh:VlsV H vs xs):VlsV H (vs++ws) (xs++ys):=by
 induction hh with
 |nil=>exact h2
 |cons h a r ih=>exact .cons h a ih
noncomputable def gapsM (cs:List Pc):List Tq:=(cs.filter λc=>!c.isStep).map Pc.name
noncomputable def named (vs:List (Tq×PyData))(n:Tq):List PyData:=(vs.filter λp=>decide (p.1=n)).map (·.2)
noncomputable def fillS (c:Pc)(vs:List (Tq×PyData)):Except Tq (List Tq):=match c with
 |.step s=>.ok [s]
 |c=>match named vs c.name with
  |[d]=>if isValD c d=true then .ok (stpsD c d) else .error c.name
  |_=>.error c.name
noncomputable def fillF:List Pc->List (Tq×PyData)->Except Tq (List Tq)
 |[],_=>.ok []
 |c::cs,vs=>match fillS c vs with
  |.error n=>.error n
  |.ok a=>match fillF cs vs with
   |.error n=>.error n
   |.ok b=>.ok (a++b)
noncomputable def otherM (cs:List Pc)(vs:List (Tq×PyData)):Option Tq:=(vs.find? λp=>!decide (p.1∈gapsM cs)).map (·.1)
noncomputable def fillM (cs:List Pc)(vs:List (Tq×PyData)):Except Tq (List Tq):=match fillF cs vs with
 |.error n=>.error n
 |.ok ss=>match otherM cs vs with
  |some n=>.error n
  |none=>.ok ss
theorem Au {H:Hp}{vs:List (Tq×PyData)}{xs:List V}(h:VlsV H vs xs)(n:Tq)(g:Nat->V)(hg:∀i m d p v,vs[i]?=some (m,d)->xs[i]?=some (.ref p)->H p=some (.tup [tV m,v])->g i=v) :
  IsAll H (named vs n) (((List.range xs.length).filter λi=>decide ((vs[i]?.map (·.1))=some n)).map g):=by
 induction h generalizing g with
 |nil=>exact .nil
 |cons hp ha r ih=>
  rename_i m d p v vs xs;have e:List.range (V.ref p::xs).length=0::(List.range xs.length).map Nat.succ:=by rw[length_cons,range_succ_eq_map]
  have dl:=ih (λi=>g (i+1)) (λi m d p v h1 h2 h3=>hg (i+1) m d p v (by simpa using h1) (by simpa using h2) h3);have e2:((((List.range xs.length).map Nat.succ).filter λi=>decide ((((m,d)::vs)[i]?.map (·.1))=some n)).map g)=(((List.range xs.length).filter λi=>decide ((vs[i]?.map (·.1))=some n)).map λi=>g (i+1)):=by rw[filter_map,map_map];rfl
  rw[e,filter_cons];have g0:g 0=v:=hg 0 m d p v rfl rfl hp;by_cases hm:m=n
  .have e3:named ((m,d)::vs) n=d::named vs n:=by unfold named;rw[filter_cons,if_pos (by simp[hm])];rfl
   rw[e3,if_pos (by simp[hm]),map_cons,e2,g0];exact .cons ha dl
  .have e3:named ((m,d)::vs) n=named vs n:=by unfold named;rw[filter_cons,if_neg (by simp[hm])]
   rw[e3,if_neg (by simp[hm]),e2];exact dl
theorem mC {H:Hp}:∀{ds:List PyData}{xs:List V},IsAll H ds xs->ds.all canD=true->xs=(ds.map txD).map tV
 |_,_,.nil,_=>rfl
 |d::ds,_,.cons h r,hc=>by
  rw[all_cons,Bool.and_eq_true] at hc;have:=mC r hc.2;cases d with
  |str s=>cases h;rw[this];rfl
  |_=>cases hc.1
theorem Av {c:Pc}{vs:List (Tq×PyData)}{ss:List Tq}(h:fillS c vs=.ok ss)(hs:∀p∈vs,smallD p.2=true):ss.length<=100000:=by
 have dl:∀c:Pc,(match named vs c.name with|[d]=>if isValD c d=true then (.ok (stpsD c d):Except Tq (List Tq)) else .error c.name|_=>.error c.name)=.ok ss->(∀d,d∈named vs c.name->isValD c d=true->(stpsD c d).length<=100000)->ss.length<=100000:=λc h hd=>by
  cases hn:named vs c.name with
  |nil=>rw[hn] at h;cases h
  |cons d r=>
   cases r with
   |nil=>
    rw[hn] at h hd;by_cases hv:isValD c d=true
    .have h:(if isValD c d=true then (.ok (stpsD c d):Except Tq (List Tq)) else .error c.name)=.ok ss:=h;rw[if_pos hv] at h;cases h;exact hd d (mem_singleton.mpr rfl) hv
    .have h:(if isValD c d=true then (.ok (stpsD c d):Except Tq (List Tq)) else .error c.name)=.ok ss:=h;rw[if_neg hv] at h;cases h
   |cons _ _=>rw[hn] at h;cases h
 have ld:∀n d,d∈named vs n->smallD d=true:=λn d hd=>by obtain⟨p,hp,rfl⟩:=mem_map.mp hd;exact hs p (mem_filter.mp hp).1
 cases c with
 |step s=>cases h;exact (show 1<=100000 by decide)
 |part a b e=>exact dl _ h λd _ _=>(by show 1<=100000;decide)
 |word n=>exact dl _ h λd _ _=>(by show 1<=100000;decide)
 |gap n=>exact dl _ h λd _ _=>(by show 1<=100000;decide)
 |num n=>
  refine dl _ h λd _ hv=>?_;cases d with
  |int i=>exact (by show 1<=100000;decide)
  |_=>exact Nat.zero_le _
 |rest n=>
  refine dl _ h λd hd _=>?_;cases d with
  |list ds=>have:=ld _ _ hd;simp only[smallD,Bool.and_eq_true,decide_eq_true_eq] at this;show (ds.map txD).length<=100000;rw[length_map];exact this.1
  |_=>exact Nat.zero_le _
theorem mD {vs:List (Tq×PyData)}:∀{cs:List Pc}{i:Nat}{c:Pc}{a b:List Tq},cs[i]?=some c->fillF (cs.take i) vs=.ok a->fillS c vs=.ok b->fillF (cs.take (i+1)) vs=.ok (a++b)
 |[],_,_,_,_,h,_,_=>by cases h
 |d::cs,0,c,a,b,h,h1,h2=>by cases h;cases h1;show fillF [d] vs=_;unfold fillF fillF;rw[h2];simp
 |d::cs,i+1,c,a,b,h,h1,h2=>by
  have h:cs[i]?=some c:=by simpa using h
  have h1:fillF (d::cs.take i) vs=.ok a:=h1;show fillF (d::cs.take (i+1)) vs=_;unfold fillF at h1 ⊢;cases hd:fillS d vs with
  |error n=>rw[hd] at h1;cases h1
  |ok x=>
   rw[hd] at h1;cases hf:fillF (cs.take i) vs with
   |error n=>rw[hf] at h1;cases h1
   |ok y=>rw[hf] at h1;cases h1;have:=mD h hf h2;rw[this];simp
theorem mE {vs:List (Tq×PyData)}{n:Tq}:∀{cs:List Pc}{i:Nat}{c:Pc}{a:List Tq},cs[i]?=some c->fillF (cs.take i) vs=.ok a->fillS c vs=.error n->fillF cs vs=.error n
 |[],_,_,_,h,_,_=>by cases h
 |d::cs,0,c,a,h,h1,h2=>by cases h;unfold fillF;rw[h2]
 |d::cs,i+1,c,a,h,h1,h2=>by
  have h:cs[i]?=some c:=by simpa using h
  have h1:fillF (d::cs.take i) vs=.ok a:=h1;unfold fillF at h1 ⊢;cases hd:fillS d vs with
  |error n=>rw[hd] at h1;cases h1
  |ok x=>
   rw[hd] at h1;cases hf:fillF (cs.take i) vs with
   |error n=>rw[hf] at h1;cases h1
   |ok y=>rw[hf] at h1;cases h1;have:=mE h hf h2;rw[this]
noncomputable def prAt (H:Hp)(ys:List V)(i:Nat):V×V:=match ys[i]? with
 |some (.ref p)=>match H p with
  |some (.tup [a,b])=>(a,b)
  |_=>(.non,.non)
 |_=>(.non,.non)
theorem gf {H:Hp}{ys:List V}{i:Nat}{p:Addr}{a b:V}(h:ys[i]?=some (.ref p))(hp:H p=some (.tup [a,b])):prAt H ys i=(a,b):=by unfold prAt;rw[h];dsimp only;rw[hp]
theorem mF {c:Pc}{vs:List (Tq×PyData)}(h:c.isStep=false):fillS c vs=(match named vs c.name with|[d]=>if isValD c d=true then .ok (stpsD c d) else .error c.name|_=>.error c.name):=by
 cases c with
 |step s=>cases h
 |_=>rfl
end Wm
namespace L2
open PySem
theorem Aw {X:Cx}{K:W.Frag}(h:X.K=K):OpR X (compareOp .NotIn) (rIn K true):=by subst h;exact uV
end L2
namespace Wm
open PySem L2
theorem mG {cs:List Pc}{n:Tq}{d:PyData}:∀{ws:List (Tq×PyData)}{i:Nat},ws[i]?=some (n,d)->(∀w∈ws.take i,w.1∈gapsM cs)->n∉gapsM cs->otherM cs ws=some n
 |[],_,h,_,_=>by cases h
 |w::ws,0,h,_,hn=>by cases h;unfold otherM;rw[List.find?_cons_of_pos (by simp[hn])];rfl
 |w::ws,i+1,h,hp,hn=>by have hw:=hp w (by simp);have ih:=mG (ws:=ws) (i:=i) (by simpa using h) (λx hx=>hp x (by simp[hx])) hn;unfold otherM at ih ⊢;rw[List.find?_cons_of_neg (by simp[hw])];exact ih
theorem mH {cs:List Pc}{ws:List (Tq×PyData)}(h:∀w∈ws,w.1∈gapsM cs):otherM cs ws=none:=by unfold otherM;rw[List.find?_eq_none.mpr (λw hw=>by simp[h w hw])];rfl
theorem cW (cs:List Pc):(gapsM cs).length<=cs.length:=by unfold gapsM;rw[length_map];exact length_filter_le _ _
theorem Ax:∀(k:Nat) (ds:Tq),ds.length=k->ds≠[]->(∀c∈ds,48<=c/\c<=57)->(ds=[48]\/ds.head?≠some 48)->(Nat.toDigits 10 (valD ds)).map Char.toNat=ds:=by
 intro k;induction k with
 |zero=>intro ds hl hn;exact absurd (length_eq_zero_iff.mp hl) hn
 |succ k ih=>
  intro ds hl hn hd h0;have ld:∀n,n < 10->([Nat.digitChar n].map Char.toNat)=[48+n]:=by fail "k"
  obtain⟨as,c,rfl⟩:∃as c,ds=as++[c]:=⟨ds.dropLast,ds.getLast hn,(List.dropLast_concat_getLast hn).symm⟩;have hc:=hd c (mem_append_right _ (mem_singleton.mpr rfl));rw[bb];cases has:as with
  |nil=>
   have ev:valD ([]:Tq)=0:=rfl;rw[ev,Nat.zero_mul,Nat.zero_add,Nat.toDigits_of_lt_base (by lia),ld _ (by lia)];show [48+(c - 48)]=[c]
   congr 1;lia
  |cons a as'=>
   rw[<- has];have mt:as≠[]:=by rw[has];simp
   have dl:a≠48:=λz=>by
    rcases h0 with h0|h0
    .have:=congrArg List.length h0;rw[length_append,has] at this;simp at this
    .refine h0 ?_;rw[has,z];rfl
   have ha:=hd a (by rw[has];simp);have hp:=lP has (by lia);have hi:=ih as (by rw[length_append,length_singleton] at hl;lia) mt (λx hx=>hd x (mem_append_left _ hx)) (.inr (by rw[has];intro z;exact dl (Option.some.inj z)));rw[Nat.toDigits_of_base_le (by decide) (by lia),map_append];rw[show (valD as * 10+(c - 48)) / 10=valD as by lia,show (valD as * 10+(c - 48)) % 10=c - 48 by lia,hi,ld _ (by lia)]
   congr 1
   show [48+(c - 48)]=[c]
   congr 1;lia
theorem Ay:∀(k:Nat) (ds:Tq),ds.length=k->(∀c∈ds,48<=c/\c<=57)->valD ds < 10 ^ k:=by
 intro k;induction k with
 |zero=>intro ds hl _;rw[length_eq_zero_iff.mp hl];decide
 |succ k ih=>
  intro ds hl hd;have hn:ds≠[]:=λz=>by rw[z] at hl;cases hl
  obtain⟨as,c,rfl⟩:∃as c,ds=as++[c]:=⟨ds.dropLast,ds.getLast hn,(List.dropLast_concat_getLast hn).symm⟩;have hc:=hd c (mem_append_right _ (mem_singleton.mpr rfl));have:=ih as (by rw[length_append,length_singleton] at hl;lia) (λx hx=>hd x (mem_append_left _ hx));rw[bb,Nat.pow_succ];lia
theorem mI {l:Tq}(h:l.all isFig=true)(h0:1<=l.length)(h1:l.length<=60):intOf l=(valD l:Int):=by
 have e:=intText_digits (x:=⟨l.toArray⟩) (λc hc=>by have:=all_eq_true.mp h c (by simpa using hc);simpa [isFig] using this) (by intro z;simp at z;rw[z] at h0;simp at h0) (by show l.length<=4300;lia)
 unfold intOf;rw[e];rfl
theorem Az {l:Tq}(h:l.all isFig=true):∀c∈l,48<=c/\c<=57:=λc hc=>by have:=all_eq_true.mp h c hc;simpa [isFig] using this
theorem mJ {s:Tq}(h:numB s=true):dg (intOf s)=s/\0<=intOf s/\intOf s < 10 ^ 60:=by
 unfold numB at h;simp only[Bool.and_eq_true,decide_eq_true_eq,Bool.or_eq_true,Bool.not_eq_true',decide_eq_false_iff_not] at h;obtain⟨⟨⟨h1,h2⟩,h3⟩,h4⟩:=h;have hf:=Az h3;rw[mI h3 h1 h2];have hn:s≠[]:=length_pos_iff.mp h1;refine⟨?_,by lia,?_⟩
 .unfold dg;rw[PySem.W.KIN.signs_num];exact Ax _ s rfl hn hf h4
 .have:=Ay _ s rfl hf;have dl:10 ^ s.length<=10 ^ 60:=Nat.pow_le_pow_right (by decide) h2;have:valD s < 10 ^ 60:=Nat.lt_of_lt_of_le this dl
  exact_mod_cast this
theorem mK {h t s:Tq}(hp:partB h t s=true):h++amid h t s++t=s/\amid h t s≠[]:=by
 unfold partB at hp;simp only[Bool.and_eq_true,decide_eq_true_eq] at hp;obtain⟨h1,h2,h3⟩:=hp;unfold amid;constructor
 .have e1:h++s.drop h.length=s:=by
   conv=>rhs;rw[<- take_append_drop h.length s]
   rw[h1]
  have e2:(s.drop h.length).drop (s.length - t.length - h.length)=t:=by rw[drop_drop,show h.length+(s.length - t.length - h.length)=s.length - t.length by lia];exact h2
  rw[append_assoc];have e3:(s.drop h.length).take (s.length - t.length - h.length)++t=s.drop h.length:=by
   conv=>rhs;rw[<- take_append_drop (s.length - t.length - h.length) (s.drop h.length)]
   rw[e2]
  rw[e3,e1]
 .intro z;have:=congrArg List.length z;rw[length_take,length_drop] at this;simp at this;lia
def SgT (s:Tq):Prop:=s≠[]/\∀c∈s,isSg c=true
theorem mL {s:Tq}(h:SgT s):ftx (st s)=true:=by simp only[ftx,gB,Bool.and_eq_true,decide_eq_true_eq];exact⟨all_eq_true.mpr h.2,length_pos_iff.mpr h.1⟩
theorem AA {c:Pc}{s:Tq}{r:List Tq}(hs:c.isStep=false)(hr:c.isRest=false)(hf:fitsM c s=true)(hg:SgT s):isValD c (vlD (bvM c (s::r)))=true/\stpsD c (vlD (bvM c (s::r)))=[s]:=by
 unfold fitsM at hf;rw[Bool.and_eq_true,Bool.not_eq_true'] at hf;obtain⟨hd,hf⟩:=hf;cases c with
 |step w=>cases hs
 |rest n=>cases hr
 |part h n t=>
  obtain⟨e,ne⟩:=mK hf;have ea:vlD (bvM (.part h n t) (s::r))=st (amid h t s):=rfl;rw[ea];refine⟨?_,?_⟩
  .show (ftx (st (amid h t s)) && !isDot (h++amid h t s++t))=true;rw[e,hd,mL ⟨ne,λc hc=>hg.2 c (by rw[<- e];simp[hc])⟩];rfl
  .show [h++amid h t s++t]=[s];rw[e]
 |num n=>obtain⟨h1,h2,h3⟩:=mJ hf;have ea:vlD (bvM (.num n) (s::r))=.int (intOf s):=rfl;rw[ea];exact⟨decide_eq_true ⟨h2,h3⟩,by show [dg (intOf s)]=[s];rw[h1]⟩
 |word n=>
  have ea:vlD (bvM (.word n) (s::r))=st s:=by show st (amid [] [] s)=st s;rw[bN]
  rw[ea];exact⟨hf,by show [[]++s++[]]=[s];simp⟩
 |gap n=>
  have ea:vlD (bvM (.gap n) (s::r))=st s:=by show st (amid [] [] s)=st s;rw[bN]
  rw[ea];refine⟨?_,by show [[]++s++[]]=[s];simp⟩;show (ftx (st s) && !isDot s)=true;rw[mL hg,hd];rfl
theorem AB {s:Tq}(h:SgT s)(hd:isDot s=false):canD (st s)=true:=by show (s.all isSg && decide (0 < (⟨s.toArray⟩:Str).length) && !isDot s)=true;rw[all_eq_true.mpr h.2,decide_eq_true (show 0 < (⟨s.toArray⟩:Str).length by rw[aG];exact length_pos_iff.mpr h.1),hd];rfl
theorem AC {n:Tq}{ss:List Tq}(hn:ss≠[])(h:∀s∈ss,SgT s/\isDot s=false):isValD (.rest n) (vlD (bvM (.rest n) ss))=true/\stpsD (.rest n) (vlD (bvM (.rest n) ss))=ss:=by
 have ea:vlD (bvM (.rest n) ss)=.list (ss.map st):=rfl;rw[ea];refine⟨?_,?_⟩
 .show (decide (0 < (ss.map st).length) && (ss.map st).all canD)=true;rw[decide_eq_true (by rw[length_map];exact length_pos_iff.mpr hn),Bool.true_and];refine all_eq_true.mpr λd hd=>?_;obtain⟨s,hs,rfl⟩:=mem_map.mp hd;exact AB (h s hs).1 (h s hs).2
 .show (ss.map st).map txD=ss;rw[map_map]
  conv=>rhs;rw[<- map_id ss]
  rfl
theorem AD {ws:List (Tq×PyData)}{n:Tq}(h:n∉ws.map (·.1)):named ws n=[]:=by
 unfold named;rw[List.filter_eq_nil_iff.mpr λp hp=>by simp only[decide_eq_true_eq];exact λz=>h (by rw[<- z];exact mem_map_of_mem hp)]
 rfl
theorem gh:∀{ws:List (Tq×PyData)}{n:Tq}{d:PyData},(ws.map (·.1)).Nodup->(n,d)∈ws->named ws n=[d]
 |[],_,_,_,h=>by cases h
 |w::ws,n,d,hn,h=>by
  rw[map_cons,nodup_cons] at hn;rcases mem_cons.mp h with rfl|h
  .have:named ((n,d)::ws) n=d::named ws n:=by unfold named;rw[filter_cons,if_pos (by simp)];rfl
   rw[this,AD hn.1]
  .have hne:w.1≠n:=λz=>hn.1 (by rw[z];exact mem_map_of_mem (f:=(·.1)) h);have:named (w::ws) n=named ws n:=by unfold named;rw[filter_cons,if_neg (by simp[hne])]
   rw[this];exact gh hn.2 h
theorem mM {ns:List Tq}(hn:ns.Nodup):∀{cs:List Pc} (k:Nat),(∀(i:Nat) (c:Pc),cs[i]?=some c->c.isStep=false->ns[k+i]?=some c.name)->(gapsM cs).Nodup/\∀n∈gapsM cs,∃j,k<=j/\ns[j]?=some n
 |[],_,_=>⟨List.nodup_nil,λn h=>by cases h⟩
 |c::cs,k,h=>by
  obtain⟨i1,i2⟩:=mM hn (cs:=cs) (k+1) λi d hd hs=>by have:=h (i+1) d (by simpa using hd) hs;rw[<- this];congr 1;lia
  have e:gapsM (c::cs)=(if c.isStep then [] else [c.name])++gapsM cs:=by unfold gapsM;rw[filter_cons];cases c.isStep <;> rfl
  rw[e];cases hs:c.isStep with
  |true=>exact⟨i1,λn dl=>by obtain⟨j,h1,h2⟩:=i2 n dl;exact⟨j,by lia,h2⟩⟩
  |false=>
   have h0:ns[k]?=some c.name:=h 0 c rfl hs;refine⟨?_,λn dl=>?_⟩
   .show (c.name::gapsM cs).Nodup;rw[nodup_cons];refine⟨λz=>?_,i1⟩;obtain⟨j,h1,h2⟩:=i2 _ z;obtain⟨a1,a2⟩:=List.getElem?_eq_some_iff.mp h0;obtain⟨b1,b2⟩:=List.getElem?_eq_some_iff.mp h2;rw[nodup_iff_pairwise_ne,List.pairwise_iff_getElem] at hn;exact hn k j a1 b1 (by lia) (a2.trans b2.symm)
   .rcases mem_cons.mp (show n∈c.name::gapsM cs from dl) with rfl|z
    .exact⟨k,Nat.le_refl _,h0⟩
    .obtain⟨j,h1,h2⟩:=i2 n z;exact⟨j,by lia,h2⟩
theorem mN {ws:List (Tq×PyData)}:∀{cs:List Pc}{ss:List Tq},(∀(i:Nat) (c:Pc),cs[i]?=some c->∃s,ss[i]?=some s/\fitsM c s=true)->(∀(i:Nat) (c:Pc),cs[i]?=some c->c.isRest=true->i+1=cs.length)->((∀c∈cs,c.isRest=false)->ss.length=cs.length)->(∀s∈ss,SgT s/\isDot s=false)->(∀n x,(n,x)∈boundM cs ss->named ws n=[vlD x])->fillF cs ws=.ok ss
 |[],ss,_,_,hl,_,_=>by have:=hl (λc hc=>by cases hc);rw[length_nil] at this;rw[length_eq_zero_iff.mp this];rfl
 |c::cs,ss,hf,hr,hl,hg,hb=>by
  obtain⟨s,h0,hfs⟩:=hf 0 c rfl;cases ss with
  |nil=>cases h0
  |cons s' ss=>
   cases h0;have hbe:boundM (c::cs) (s::ss)=(if c.isStep then [] else [(c.name,bvM c (s::ss))])++boundM cs ss:=rfl;by_cases hcr:c.isRest=true
   .have hn:cs=[]:=length_eq_zero_iff.mp (by have:=hr 0 c rfl hcr;simp only[length_cons] at this;lia);subst hn;cases c with
    |rest n=>
     have hb1:=hb n (bvM (.rest n) (s::ss)) (by rw[hbe];exact mem_append_left _ (mem_singleton.mpr rfl));obtain⟨r1,r2⟩:=AC (n:=n) (ss:=s::ss) (by simp) hg;have e:fillS (.rest n) ws=.ok (s::ss):=by show (match named ws n with|[d]=>if isValD (.rest n) d=true then (.ok (stpsD (.rest n) d):Except Tq (List Tq)) else .error n|_=>.error n)=_;rw[hb1];show (if isValD (.rest n) _=true then _ else _)=_;rw[if_pos r1,r2]
     unfold fillF fillF;rw[e];simp
    |_=>cases hcr
   .have ih:=mN (ws:=ws) (cs:=cs) (ss:=ss) (λi d hd=>by
     obtain⟨z,h1,h2⟩:=hf (i+1) d (by simpa using hd);exact⟨z,by simpa using h1,h2⟩) (λi d hd dl=>by
     have:=hr (i+1) d (by simpa using hd) dl;simp only[length_cons] at this;lia) (λh=>by
     have:=hl (λd hd=>by
      rcases mem_cons.mp hd with rfl|hd
      .simpa using hcr
      .exact h d hd)
     simp only[length_cons] at this;lia) (λz hz=>hg z (mem_cons_of_mem _ hz)) (λn x hx=>hb n x (by rw[hbe];exact mem_append_right _ hx))
    have e:fillS c ws=.ok [s]:=by
     cases hst:c.isStep with
     |true=>
      cases c with
      |step w=>unfold fitsM at hfs;rw[Bool.and_eq_true] at hfs;have:s=w:=of_decide_eq_true hfs.2;rw[this];rfl
      |_=>cases hst
     |false=>rw[mF hst];have hb1:=hb c.name (bvM c (s::ss)) (by rw[hbe,hst];exact mem_append_left _ (mem_singleton.mpr rfl));rw[hb1];obtain⟨r1,r2⟩:=AA (r:=ss) hst (by simpa using hcr) hfs (hg s (mem_cons_self ..)).1;show (if isValD c _=true then _ else _)=_;rw[if_pos r1,r2]
    unfold fillF;rw[e,ih];rfl
theorem gi {cs:List Pc}{cl r e:Bool}{ss:List Tq}(h:fitsP cs cl r ss e=true):r=true/\e=cl/\((∀c∈cs,c.isRest=false)->ss.length=cs.length)/\cs.length<=ss.length/\∀s∈ss,isDot s=false:=by
 unfold fitsP at h;cases hs:spreadM cs ss.length with
 |none=>rw[hs] at h;cases h
 |some ds=>
  rw[hs] at h;have h:(r && decide (e=cl) && (List.zipWith fitsM ds ss).all id)=true:=h;rw[Bool.and_eq_true,Bool.and_eq_true,decide_eq_true_eq] at h;have hdl:=ly hs;refine⟨h.1.1,h.1.2,λhn=>?_,(lx hs).1,λs dl=>?_⟩
  .unfold spreadM at hs;by_cases hr:hasRest cs=true/\cs.length<=ss.length
   .exfalso;have hh:=hr.1;unfold hasRest at hh;cases hg:cs.getLast? with
    |none=>rw[hg] at hh;cases hh
    |some c=>rw[hg] at hh;have hc:=hn c (List.mem_of_getLast? hg);have hh:c.isRest=true:=hh;rw[hc] at hh;cases hh
   .rw[if_neg hr] at hs;by_cases hl:ss.length=cs.length
    .exact hl
    .rw[if_neg hl] at hs;cases hs
  .obtain⟨i,hi⟩:=List.mem_iff_getElem?.mp dl;have hil:=(List.getElem?_eq_some_iff.mp hi).1;have hd:ds[i]?=some ds[i]:=List.getElem?_eq_getElem (by lia);have hz:fitsM ds[i] s∈List.zipWith fitsM ds ss:=by
    rw[List.mem_iff_getElem?];exact⟨i,by rw[List.getElem?_zipWith,hd,hi]⟩
   have:=all_eq_true.mp h.2 _ hz;have this:fitsM ds[i] s=true:=this;unfold fitsM at this;rw[Bool.and_eq_true,Bool.not_eq_true'] at this;exact this.1
theorem AE {c:Nat}(h:48<=c/\c<=57):isSg c=true:=by simp only[isSg,Bool.and_eq_true,decide_eq_true_eq,Bool.not_eq_true',decide_eq_false_iff_not];lia
theorem AF {k:Nat}:∀{n:Nat},0 < k->n < 10 ^ k->(Nat.toDigits 10 n).length<=k:=by
 induction k with
 |zero=>intro n h;cases h
 |succ k ih=>
  intro n _ h;by_cases hn:n < 10
  .rw[Nat.toDigits_of_lt_base hn];simp
  .rw[Nat.toDigits_of_base_le (by decide) (by lia),length_append,length_singleton];cases k with
   |zero=>lia
   |succ k=>have:=ih (n:=n / 10) (by lia) (by rw[Nat.pow_succ] at h;lia);lia
theorem AG {n:Nat}(h:n < 10 ^ 60):(Nat.toDigits 10 n).length<=60:=AF (by decide) h
theorem mO (d:Nat):∀(n:Nat) (a:Array Nat),((List.replicate n #[d]).foldl (·++·) a).toList=a.toList++List.replicate n d
 |0,a=>by simp
 |n+1,a=>by rw[replicate_succ,List.foldl_cons,mO d n,replicate_succ];simp
theorem AH (d m:Nat):Txt.mul (⟨#[d]⟩:Str) (m:Int)=⟨(List.replicate m d).toArray⟩:=by
 unfold Txt.mul;by_cases h:(m:Int) < 1
 .rw[if_pos h];have:m=0:=by lia
  subst this;rfl
 .rw[if_neg h];by_cases h1:m=1
  .subst h1;rw[if_pos (by rfl)];rfl
  .rw[if_neg (by
    have e:(⟨#[d]⟩:Str).length=1:=rfl;rw[e,Bool.or_eq_true];rintro (z|z)
    .exact h1 (by have:=eq_of_beq z;lia)
    .cases z)]
   have e:=mO d m #[];rw[Int.toNat_natCast]
   congr 1
   rw[<- Array.toList_inj,e];simp
theorem AI (d m:Nat)(h:m<=60):MulOk (⟨#[d]⟩:Str) (m:Int):=by
 refine⟨?_,λh1 _=>?_,λ_ _=>notTooLong ?_⟩
 .rw[decide_eq_false (by lia),decide_eq_false (by lia)];rfl
 .show ¬ (1:Int) > _;have:(1:Int)<=(2 ^ 63 - 1) / (m:Int):=by
   rw[Int.le_ediv_iff_mul_le (by lia)];lia
  lia
 .show 1 * _<=_;have:((m:Int)).toNat=m:=by lia
  rw[this];exact Nat.le_trans (show 1 * m<=100 by lia) (by decide)
theorem gj:∀{ds:List PyData},(∀d∈ds,PyData.eqv d d=true)->PyData.eqvAll ds ds=true
 |[],_=>by simp[PyData.eqvAll]
 |d::ds,h=>by have h1:=h d (mem_cons_self ..);have h2:=gj (ds:=ds) λx hx=>h x (mem_cons_of_mem _ hx);simp[PyData.eqvAll,h1,h2]
theorem gk {ds:List PyData}(h:∀d∈ds,PyData.eqv d d=true):PyData.eqv (.list ds) (.list ds)=true:=by simp[PyData.eqv,gj h]
theorem bI {ds:List PyData}(h:∀d∈ds,PyData.eqv d d=true):PyData.eqv (.tuple ds) (.tuple ds)=true:=by simp[PyData.eqv,gj h]
theorem b7 (l:Tq):PyData.eqv (st l) (st l)=true:=by simp[PyData.eqv]
theorem AJ (i:Int):PyData.eqv (.int i) (.int i)=true:=by simp[PyData.eqv]
theorem gl (b:Bool):PyData.eqv (.bool b) (.bool b)=true:=by simp[PyData.eqv]
theorem AK (x:Vl):PyData.eqv (vlD x) (vlD x)=true:=by
 cases x with
 |txt l=>exact b7 l
 |int i=>exact AJ i
 |lst ls=>exact gk λd hd=>by obtain⟨l,_,rfl⟩:=mem_map.mp hd;exact b7 l
def VlOk:Vl->Prop
 |.txt l=>(∀c∈l,isSg c=true)/\l.length<=20000
 |.int _=>True
 |.lst ls=>(∀l∈ls,(∀c∈l,isSg c=true)/\l.length<=20000)/\ls.length<=20000
theorem VlOk.lay {x:Vl}(h:VlOk x):LayAt 1 (vlD x):=by
 cases x with
 |txt l=>exact (LayAt.st h.1).le (by decide)
 |int i=>exact (LayAt.iD (o:=some i)).le (by decide)
 |lst ls=>exact layL (n:=0) λd hd=>by obtain⟨l,hl,rfl⟩:=mem_map.mp hd;exact LayAt.st (h.1 l hl).1
theorem VlOk.small {x:Vl}(h:VlOk x):smallD (vlD x)=true:=by
 cases x with
 |txt l=>simp only[vlD,smallD,gB,decide_eq_true_eq];have:=h.2;lia
 |int i=>rfl
 |lst ls=>exact yD (by rw[length_map];have:=h.2;lia) (kW λd hd=>by obtain⟨l,hl,rfl⟩:=mem_map.mp hd;simp only[smallD,gB,decide_eq_true_eq];have:=(h.1 l hl).2;lia)
theorem AL {h t s:Tq}:∀c∈amid h t s,c∈s:=λc hc=>mem_of_mem_drop (mem_of_mem_take hc)
theorem AM {h t s:Tq}:(amid h t s).length<=s.length:=by unfold amid;rw[length_take,length_drop];lia
theorem BndV.vls {H:Hp}{l:Addr}{bs:List (Tq×Vl)}{ys:List V}(hh:BndV H l bs ys):VlsV H (bs.map λp=>(p.1,vlD p.2)) ys:=by
 induction hh with
 |nil=>exact .nil
 |cons a b _ r ih=>exact .cons a b.is ih
theorem VlsV.isAll {H:Hp}{vs:List (Tq×PyData)}{xs:List V}(hh:VlsV H vs xs):IsAll H (vs.map λp=>.tuple [st p.1,p.2]) xs:=by
 induction hh with
 |nil=>exact .nil
 |cons h a r ih=>exact .cons (.tup h (.cons (.str _) (.cons a .nil))) ih
noncomputable def bndD (bs:List (Tq×Vl)):PyData:=.list ((bs.map λp=>(p.1,vlD p.2)).map λp=>.tuple [st p.1,p.2])
theorem gm {bs:List (Tq×Vl)}(hn:∀p∈bs,∀c∈p.1,isSg c=true)(hv:∀p∈bs,VlOk p.2):LayAt 3 (bndD bs):=layL λd hd=>by
 obtain⟨q,hq,rfl⟩:=mem_map.mp hd;obtain⟨p,hp,rfl⟩:=mem_map.mp hq;refine LayAt.tup (n:=1) λe he=>?_;simp only[mem_cons,not_mem_nil,or_false] at he;rcases he with rfl|rfl
 .exact (LayAt.st (hn p hp)).le (by decide)
 .exact (hv p hp).lay
theorem gp (bs:List (Tq×Vl)):PyData.eqv (bndD bs) (bndD bs)=true:=gk λd hd=>by
 obtain⟨q,hq,rfl⟩:=mem_map.mp hd;obtain⟨p,hp,rfl⟩:=mem_map.mp hq;refine bI λe he=>?_;simp only[mem_cons,not_mem_nil,or_false] at he;rcases he with rfl|rfl
 .exact b7 _
 .exact AK _
noncomputable def wyD (r:Bool)(ss:List Tq)(e:Bool):PyData:=.tuple [.bool r,.tuple (ss.map st),.bool e]
theorem mP {r e:Bool}{ss:List Tq}(h:∀s∈ss,∀c∈s,isSg c=true):LayAt 2 (wyD r ss e):=LayAt.tup (n:=1) λd hd=>by
 simp only[mem_cons,not_mem_nil,or_false] at hd;rcases hd with rfl|rfl|rfl
 .exact LayAt.bool.le (by decide)
 .exact LayAt.tup (n:=0) λd hd=>by obtain⟨s,hs,rfl⟩:=mem_map.mp hd;exact LayAt.st (h s hs)
 .exact LayAt.bool.le (by decide)
theorem mQ (r:Bool)(ss:List Tq)(e:Bool):PyData.eqv (wyD r ss e) (wyD r ss e)=true:=bI λd hd=>by
 simp only[mem_cons,not_mem_nil,or_false] at hd;rcases hd with rfl|rfl|rfl
 .exact gl _
 .exact bI λd hd=>by obtain⟨s,hs,rfl⟩:=mem_map.mp hd;exact b7 s
 .exact gl _
theorem eB {H:Hp}{r e:Bool}{ss:List Tq}{pw ps:Addr}(h1:H pw=some (.tup [.bl r,.ref ps,.bl e]))(h2:H ps=some (.tup (ss.map tV))):Is H (wyD r ss e) (.ref pw):=
 .tup h1 (.cons (.bl _) (.cons (.tup h2 (gc ss)) (.cons (.bl _) .nil)))
theorem cX (xs:List V)(i:Nat):cutV xs none (some (i:Int))=xs.take i:=by
 unfold cutV;rw[HT.sIx_none,HT.sIx_nat,drop_zero,Nat.sub_zero];by_cases h:i<=xs.length
 .rw[Nat.min_eq_left h]
 .rw[Nat.min_eq_right (by lia),take_length,take_of_length_le (by lia)]
noncomputable def trS:Tq:=[97,98,48,49]
noncomputable def trialsM (h t:Tq):List Tq:=trS.map λc=>h++[c]++t
def PcTx (c:Pc):Prop:=c.head.length<=40000/\c.tail.length<=40000/\∀w,c=.step w->w.length<=40000
noncomputable def fitT (c:Pc):List Tq:=(match c with|.step w=>[w]|c=>trialsM c.head c.tail).filter (fitsM c)
noncomputable def stepBey (c d:Pc):Option Tq:=(fitT c).find? λs=>!fitsM d s
theorem mR {c:Pc}{s:Tq}(h:fitsM c s=true):isDot s=false:=by unfold fitsM at h;rw[Bool.and_eq_true] at h;simpa using h.1
theorem AN {c:Pc}{s:Tq}(h:c.isRest=true)(hs:isDot s=false):fitsM c s=true:=by
 cases c <;> first|cases h|skip
 show (!isDot s && true)=true;rw[hs];rfl
theorem AO {ds ts:List Pc}{n:Nat}(h:spreadM ds n=some ts):ts.length=n/\∀i,i < n->(i < ds.length/\ts[i]?=ds[i]?)\/(ds.length<=i/\hasRest ds=true/\∃c,ts[i]?=some c/\c.isRest=true/\c∈ds):=by
 unfold spreadM at h;by_cases hr:hasRest ds=true/\ds.length<=n
 .rw[if_pos hr] at h;cases h;have dl:ds≠[]:=λe=>by subst e;exact absurd hr.1 (by decide)
  obtain⟨c,hc⟩:∃c,ds.getLast?=some c:=⟨_,List.getLast?_eq_some_getLast dl⟩;have BT:c.isRest=true:=by have:=hr.1;unfold hasRest at this;rw[hc] at this;exact this
  have hd:ds.drop (ds.length - 1)=[c]:=by rw[List.getLast?_eq_getElem?] at hc;have hl:=length_pos_iff.mpr dl;obtain⟨h1,h2⟩:=List.getElem?_eq_some_iff.mp hc;rw[drop_eq_getElem_cons h1,h2,drop_eq_nil_of_le (by lia)]
  rw[hd];have mt:∀k:Nat,(List.replicate k [c]).flatten=List.replicate k c:=λk=>by
   induction k with
   |zero=>rfl
   |succ k ih=>rw[replicate_succ,flatten_cons,ih];rfl
  rw[mt];refine⟨by rw[length_append,length_replicate];lia,λi hi=>?_⟩;by_cases ld:i < ds.length
  .exact .inl ⟨ld,List.getElem?_append_left ld⟩
  .refine .inr ⟨by lia,hr.1,c,?_,BT,List.mem_of_getLast? hc⟩;rw[List.getElem?_append_right (by lia),List.getElem?_replicate,if_pos (by lia)]
 .rw[if_neg hr] at h;by_cases e:n=ds.length
  .rw[if_pos e] at h;cases h;exact⟨e.symm,λi hi=>.inl ⟨by lia,rfl⟩⟩
  .rw[if_neg e] at h;cases h
theorem AQ {ds:List Pc}{n:Nat}(h:(hasRest ds=true/\ds.length<=n)\/n=ds.length):∃ts,spreadM ds n=some ts:=by
 unfold spreadM;by_cases hr:hasRest ds=true/\ds.length<=n
 .rw[if_pos hr];exact⟨_,rfl⟩
 .rw[if_neg hr];rcases h with h|h
  .exact absurd h hr
  .rw[if_pos h];exact⟨_,rfl⟩
theorem mS:∀{ms:List Pc}{ss:List Tq},(List.zipWith fitsM ms ss).all id=true↔∀(i:Nat) (c:Pc) (s:Tq),ms[i]?=some c->ss[i]?=some s->fitsM c s=true
 |[],ss=>⟨λ_ i c s h=>by simp at h,λ_=>rfl⟩
 |c::ms,[]=>⟨λ_ i c s _ h=>by simp at h,λ_=>rfl⟩
 |c::ms,s::ss=>by
  rw[List.zipWith_cons_cons,all_cons,Bool.and_eq_true,mS];constructor
  .rintro⟨h1,h2⟩ i c' s' hc hs;cases i with
   |zero=>cases hc;cases hs;exact h1
   |succ i=>exact h2 i c' s' hc hs
  .intro h;exact⟨h 0 c s rfl rfl,λi c' s' hc hs=>h (i+1) c' s' hc hs⟩
theorem AR {cs:List Pc}{cl r e:Bool}{ss:List Tq}:fitsP cs cl r ss e=true↔∃ms,spreadM cs ss.length=some ms/\r=true/\e=cl/\∀(i:Nat) (c:Pc) (s:Tq),ms[i]?=some c->ss[i]?=some s->fitsM c s=true:=by
 unfold fitsP;cases h:spreadM cs ss.length with
 |none=>exact⟨λh=>(by cases h),λ⟨_,h,_⟩=>(by cases h)⟩
 |some ms=>show (r && decide (e=cl) && _)=true↔_;rw[Bool.and_eq_true,Bool.and_eq_true,decide_eq_true_eq,mS];exact⟨λ⟨⟨a,b⟩,c⟩=>⟨ms,rfl,a,b,c⟩,λ⟨dl,e',a,b,c⟩=>by cases e';exact⟨⟨a,b⟩,c⟩⟩
end Wm
namespace L2
open PySem
section
variable {p:Addr}{fv:St}{tt:TT}{te:TE}{Q:VK}{H1:Hp}
theorem AS {n:Nat}(f:Nat->Bool)(g:Nat->V)(hlen:n<=sizeLine)(hp:H1 p=none)
  (ht:∀i,i < n->∀(H':Hp) (R:Bool->Hp->Prop),Same H1 H'->(∀H'',Same H' H''->R (f i) H'')->tt (some (.int (0+(i:Int)))::fv) H' R)
  (he:∀i,i < n->f i=true->∀(H':Hp) (T:VK),Same H1 H'->(∀H'',Same H' H''->T (g i) H'')->te (some (.int (0+(i:Int)))::fv) H' T)
  (hQ:∀H',Same H1 H'->H' p=some (.lst (((List.range n).filter f).map g))->Q (.ref p) H'):CompI (Itr 0 n) p fv tt te Q H1:=by
 refine⟨λi m ys H2=>m=n - i/\i<=n/\ys=((List.range i).filter f).map g/\H2 p=some (.lst ys)/\Same H1 H2,⟨n,by simp,Nat.zero_le _,by simp,aC,λb o e=>by rw[aE (aJ e hp)];exact e⟩,?_⟩;rintro i m ys H2 ⟨rfl,hi,rfl,ld,sm⟩;refine⟨ld,?_⟩;by_cases dl:i < n
 .refine .inr ⟨dl,?_,λx H3 y=>?_⟩
  .rw[length_map];have:=length_filter_le f (List.range i);rw[length_range] at this;lia
  .obtain⟨rfl,rfl⟩:=y;refine ht i dl _ _ sm λH4 s4=>?_;by_cases hf:f i=true
   .rw[if_pos hf];refine he i dl hf _ _ (sm.trans s4) λH5 s5=>⟨(s4.trans s5) _ _ ld,n - (i+1),by lia,rfl,dl,?_,aC,λb o e=>?_⟩
    .rw[range_succ,filter_append,map_append];simp[hf]
    .rw[aE (aJ e hp)];exact (s4.trans s5) _ _ (sm _ _ e)
   .rw[if_neg hf];refine⟨n - (i+1),by lia,rfl,dl,?_,s4 _ _ ld,sm.trans s4⟩;rw[range_succ,filter_append,map_append];simp[hf]
 .have e:i=n:=by lia
  subst e;exact .inl ⟨Nat.le_refl _,hQ H2 sm ld⟩
end
end L2
namespace Wm
open PySem L2
theorem gq {H:Hp}:∀l:List Int,IsAll H (l.map PyData.int) (l.map V.int)
 |[]=>.nil
 |c::ss=>.cons (.int _) (gq ss)
def PtAt (H:Hp)(cs:List Pc)(e:Bool)(p:Addr):Prop:=∃(q:Addr) (xs:List V),H p=some (.tup [.ref q,.bl e])/\H q=some (.tup xs)/\PcT H cs xs
theorem PtAt.mono {H H':Hp}{cs:List Pc}{e:Bool}{p:Addr}(s:SameT H H')(h:PtAt H cs e p):PtAt H' cs e p:=by obtain⟨q,xs,h1,h2,h3⟩:=h;exact⟨q,xs,s _ _ h1,s _ _ h2,h3.mono s⟩
def PcsOk (cs:List Pc):Prop:=cs.length<=90/\∀c∈cs,PcOk c/\PcSg c
theorem gt {c:Pc}(o:PcOk c)(hn:∀x∈c.name,isSg x=true):PcSg c:=
 ⟨λl h=>by subst h;exact o.2.2.1,λh n t e=>by subst e;exact⟨o.2.2.1,o.2.2.2.1⟩,hn⟩
theorem PcT.pick {H:Hp}{cs:List Pc}{xs:List V}(h:PcT H cs xs):∀il:Tq,(∀i∈il,i < xs.length)->PcT H (il.map λi=>cs[i]?.getD (.gap [])) (il.map λi=>xs[i]?.getD .non)
 |[],_=>.nil
 |i::il,hi=>by have hlt:=hi i (mem_cons_self ..);have hv:xs[i]?=some xs[i]:=List.getElem?_eq_getElem hlt;obtain⟨c,p,hc,e,hp⟩:=h.get hv;rw[map_cons,map_cons,hc,hv,e];exact .cons hp (PcT.pick h il λj hj=>hi j (mem_cons_of_mem _ hj))
theorem eC {H H':Hp}{a:Addr}(s:Same H H')(h:H' a=none):H a=none:=by
 cases e:H a with
 |none=>rfl
 |some o=>rw[s _ _ e] at h;cases h
theorem gu {H H':Hp}{l:Addr}{ys:List V}(s:Same H H')(h:H l=none):Same H (upd H' l (.lst ys)):=λb o hb=>by rw[aE (λw=>by subst w;rw[h] at hb;cases hb)];exact s _ _ hb
theorem bD {H:Hp}{l:Addr}{ys zs:List V}(h:H l=some (.lst zs)):SameT H (upd H l (.lst ys)):=λb o hb=>by rw[aE (λw=>by subst w;rw[h] at hb;cases hb)];exact hb
noncomputable def alikeM:Pc->Pc->Bool
 |.step v,.step w=>decide (v=w)
 |.part h _ t,.part h' _ t'=>decide (h=h') && decide (t=t')
 |.num _,.num _=>true
 |.word _,.word _=>true
 |.gap _,.gap _=>true
 |.rest _,.rest _=>true
 |_,_=>false
structure Wid (c d:Pc):Prop where
 ok:PcOk d
 nr:d.isRest=false
 fits:∀s,fitsM c s=true->fitsM d s=true
 grown:alikeM c d=true\/stepBey d c≠none
theorem AT (h t z:Tq)(hz:0 < z.length):partB h t (h++z++t)=true:=by
 have dl:(h++z++t).length=h.length+z.length+t.length:=by simp only[length_append]
 unfold partB;simp only[Bool.and_eq_true,decide_eq_true_eq];refine⟨by rw[append_assoc,take_left],?_,by lia⟩;have hd:(h++z++t).length - t.length=(h++z).length:=by rw[dl,length_append];lia
 rw[hd,drop_left]
noncomputable def restM (cs:List Pc):Nat:=if hasRest cs=true then cs.length - 1 else cs.length
structure WidAll (cs ds:List Pc):Prop where
 len:ds.length=restM cs
 wid:∀(i:Nat) (c d:Pc),cs[i]?=some c->ds[i]?=some d->Wid c d
end Wm
namespace L2
open PySem PySem.Spec PySem.W PySem.Calls PyProof.Rows
section
variable {prog:Program}{w:World}{A:Around}{R:Result->Shared->Prop}{I S:Addr}{fp wr:List Addr}{P:Nat->Value->Prop}{St:Nat->Heap->Prop}{n:Nat}
end
section
variable {A:Around}{prog:Program}{w:World}{s:Shared}{E:Value->Shared->Prop}
end
section
variable {X:Cx}{p pos kp kpos:Pos}{e e2:Expr}{t:TA}
end
end L2
namespace Wm
open PySem L2
theorem PcOk.ends {c:Pc}(o:PcOk c):c.head.length<=100/\c.tail.length<=100:=by
 cases c with
 |part h n t=>exact⟨o.1,o.2.1⟩
 |_=>exact⟨Nat.zero_le _,Nat.zero_le _⟩
end Wm
namespace HT
open PySem PyProof.Rows
theorem AU (A:Around)(s:Shared)(a:Int)(t:Tok)(c:Int)(u:Tok)(prog:Program)(w:World)(E:Value->Shared->Prop)(Q:Value->Shared->Prop)(h:Q (.bool (decide (c < a))) s) :
  wpAny (model prog w) A (richCompare .Gt (.int a t) (.int c u)) Q E s:=
 (PyProof.Rows.gt_int h:wpAny (model prog w) A (compareOp .Gt (.int a t) (.int c u)) Q E s)
section
open PySem.SeqAt
open PySem.AutoSeq1 (wpAny_loadPart')
open PySem.MeetsSeq PySem.MeetsSeq2 PySem.MeetsSeq3
theorem AV (l b:Addr)(items items2:Array Value)(n n2:Nat)(dd dd2:Option Addr)(sl sl2:Array (Option Value))(ns ms:List Int)(hi:IntsAre items.toList ns)(hj:IntsAre items2.toList ms) :
  Meets (Builtin.«tuple.__gt__» ⟨[.ref l,.ref b],[]⟩)
   (λ_ R s=>s.heap.get? l=some {cls:=.type "tuple",dict:=dd,data:=.seq items n,slots:=sl}/\s.heap.get? b=some {cls:=.type "tuple",dict:=dd2,data:=.seq items2 n2,slots:=sl2}/\
    R (.ok (.ret (.bool (lexLt ms ns)))) s):=
 .of_wp λprog w A R s h=>by
  obtain⟨hp,g,d,tk,os⟩:=s;obtain⟨hl,hb,h⟩:=h;have f2:=AutoSeq1.sub_tuple_tuple;have z1:items.size=ns.length:=by rw[<- hi.length];simp
  have z2:items2.size=ms.length:=by rw[<- hj.length];simp
  wp_walk using wpAny_loadPart' hl,wpAny_loadPart' hb,wpAny_forIn_list _ (λrest b s'=>b.1=none/\s'=⟨hp,g,d,tk,os⟩/\∃(vs ws:List Value) (ns' ms':List Int),rest=vs.zip ws/\
   IntsAre vs ns'/\IntsAre ws ms'/\ns'.length+items2.size=ms'.length+items.size/\R (.ok (.ret (.bool (lexLt ms' ns')))) ⟨hp,g,d,tk,os⟩) _
  case turn=>
   rintro⟨y,x⟩ rest b s' ⟨hb',rfl,vs,ws,ns',ms',hz,hvi,hwi,hlen,hR⟩;cases hvi with
   |nil=>rw[List.zip_nil_left] at hz;cases hz
   |cons a t hvi'=>
    cases hwi with
    |nil=>rw[List.zip_nil_right] at hz;cases hz
    |cons c u hwi'=>
     rw[List.zip_cons_cons] at hz;injection hz with hyx hrest;injection hyx with hy hx;subst hy hx;rw[uA] at hR;simp only[length_cons] at hlen;obtain⟨e,he,hiff⟩:=uE A.in1 ⟨hp,g,d,tk,os⟩ a t c u;refine wpAny_bind (he prog w _ _ ?_);cases e with
     |true=>
      rw[if_pos (hiff.mp rfl).symm] at hR
      wp_walk
      exact⟨rfl,rfl,_,_,_,_,hrest,hvi',hwi',by lia,hR⟩
     |false=>
      rw[if_neg (λq=>absurd (hiff.mpr q.symm) Bool.false_ne_true)] at hR;have hri:=AU A.in1 ⟨hp,g,d,tk,os⟩ a t c u prog w
      wp_walk using hri
      exact⟨_,rfl,by simpa using hR⟩
  case fin=>
   rintro⟨b1,b2⟩ s' ⟨hb',rfl,vs,ws,ns',ms',hz,hvi,hwi,hlen,hR⟩;simp only at hb';subst hb';have hv:lexLt ms' ns'=decide (items2.size < items.size):=by
    cases hvi with
    |nil=>
     cases hwi with
     |nil=>simp only[length_nil] at hlen;rw[uB];exact (decide_eq_false (by lia)).symm
     |cons c u hw=>simp only[length_nil,length_cons] at hlen;rw[uD];exact (decide_eq_false (by lia)).symm
    |cons a t hv=>
     cases hwi with
     |nil=>simp only[length_nil,length_cons] at hlen;rw[uC];exact (decide_eq_true (by lia)).symm
     |cons c u hw=>rw[List.zip_cons_cons] at hz;cases hz
   rw[hv] at hR
   wp_walk
   exact⟨_,rfl,by simpa [Builtin.Tuple.tupleCompareSizes] using hR⟩
  case h=>
   exact⟨rfl,rfl,items.toList,items2.toList,ns,ms,rfl,hi,hj,by lia,h⟩
end
section
variable {prog:Program}{w:World}{A:Around}{E:Value->Shared->Prop}{s:Shared}
theorem gt_tupInts {l b:Addr}{items items2:Array Value}{ns ms:List Int}{Q:Value->Shared->Prop}(hl:IsTup s.heap l items)(hb:IsTup s.heap b items2)(hi:IntsAre items.toList ns)(hj:IntsAre items2.toList ms)
  (hu:A.units < cLine) (h:Q (.bool (lexLt ms ns)) s):wpAny (model prog w) A (compareOp .Gt (.ref l) (.ref b)) Q E s:=by
 obtain⟨⟨cls,dd,EX,sl⟩,ho,hc,n,hd⟩:=id hl;obtain⟨⟨EY,EW,BT,Cl⟩,dl,mt,n2,ld⟩:=id hb;simp only at hc hd mt ld;subst hc hd mt ld;exact richCompare_meets_room (op:=.Gt) ⟨_,ho,rfl⟩ ⟨_,dl,rfl⟩ PySem.F.slot_tuple_gt PySem.F.entry_tuple_gt (PySem.F.args_tuple_gt_2 _ _) (AV l b items items2 n n2 dd EW sl Cl ns ms hi hj)
  ⟨ho,dl,show Value.bool (lexLt ms ns)≠Value.notImplemented/\Q (.bool (lexLt ms ns)) s from ⟨(λx=>nomatch x),h⟩⟩ hu
end
end HT
namespace L2
open PySem PySem.Spec PyProof.Rows PyProof.V
section
variable {X:Cx}{o i:Expr}{x:Str}{np pos:Pos}{td ty:TE}
def tTab (p:Addr)(D:List (PyData×PyData))(td ty:TE):TE:=λZ H Q=>td Z H λx H1=>ty Z H1 λy H2=>x=.ref p/\∃(k:Str) (n:Int),y=.str k/\lookup (.str k) D=some (.int n)/\Q (.int n) H2
theorem AW {p:Addr}{D:List (PyData×PyData)}{Z:St}{H:Hp}{Q:VK}:(tTab p D td ty Z H Q)=(td Z H λx H1=>ty Z H1 λy H2=>x=.ref p/\∃(k:Str) (n:Int),y=.str k/\lookup (.str k) D=some (.int n)/\Q (.int n) H2):=rfl
theorem AX {p:Addr}{D:List (PyData×PyData)}(T:∀h:Heap,X.K.In h->StrTab X.prog X.w h p D)(ho:PE X (.Name x np) td)(hi:PE X i ty)(hs:∀ov iv,subscripted i false ov iv=operate [ov,iv] (getItem ov iv)):PE X (.Subscript (.Name x np) i pos) (tTab p D td ty):=by intro dl s Z H Q I h;refine Subscript_ (thn (ho dl s Z H _ I h) λu s1 ⟨x,H1,I1,rx,q1⟩=>thn (hi dl s1 Z H1 _ I1 q1) λiv s2 W'=>?_);obtain⟨y,H2,I2,ry,ex,k,n,ey,hl,q2⟩:=W';subst ex ey;obtain rfl:u=Value.ref p:=rx;obtain⟨t,rfl⟩:=ry;refine item_strTab (T _ I2.kIn) hl (λv hv=>?_) (hs _ _);obtain⟨t',rfl⟩:=hv.int_inv;exact⟨.int n,H2,I2.tok _,⟨t',rfl⟩,q2⟩
def rGtT (K:W.Frag):R2:=λx y H Q=>∃a b ns ms,x=.ref a/\y=.ref b/\SqT K H a (ns.map V.int)/\SqT K H b (ms.map V.int)/\Q (.bl (HT.lexLt ms ns)) H
theorem AY {K:W.Frag}(hK:X.K=K)(hu:X.A.units+64 < cLine):OpR X (compareOp .Gt) (rGtT K):=by subst hK;intro pins s Z H x y v u Q I rx ry h;obtain⟨a,b,ns,ms,rfl,rfl,ha,hb,q⟩:=h;cases rx;cases ry;obtain⟨us,r1,p1,_⟩:=I.tuple ha;obtain⟨ws,r2,p2,_⟩:=I.tuple hb;exact HT.gt_tupInts p1 p2 (jg r1) (jg r2) (by lia) ⟨.bl (HT.lexLt ms ns),H,I,rfl,q⟩
end
end L2
namespace Wm
open PySem L2
noncomputable def wordW:Pc->Int
 |.step _=>6
 |.part ..=>5
 |.num _=>4
 |.word _=>3
 |.gap _=>2
 |.rest _=>1
noncomputable def worthM (c:Pc):List Int:=[wordW c,((c.head.length+c.tail.length:Nat):Int),(c.head.length:Int)]
noncomputable def moreM:List Pc->List Pc->Bool
 |[],[]=>false
 |[],_::_=>true
 |_::_,[]=>false
 |c::cs,d::ds=>if worthM c=worthM d then moreM cs ds else HT.lexLt (worthM d) (worthM c)
theorem AZ:∀{A B:List Pc},A=[]\/B=[]->moreM A B=decide (A.length < B.length)
 |[],[],_=>rfl
 |[],_::_,_=>by simp[moreM]
 |_::_,[],_=>by simp[moreM]
 |_::_,_::_,h=>by rcases h with h|h <;> cases h
theorem B0 {w s:Tq}(h:fitsM (.step w) s=true):s=w:=of_decide_eq_true (Bool.and_eq_true_iff.mp h).2
theorem B1 {a n b s:Tq}(h:fitsM (.part a n b) s=true):partB a b s=true:=(Bool.and_eq_true_iff.mp h).2
def LastR (cs:List Pc):Prop:=∀(i:Nat) (c:Pc),cs[i]?=some c->c.isRest=true->i+1=cs.length
theorem B2 {cs:List Pc}{i:Nat}{c:Pc}(l:LastR cs)(h:cs[i]?=some c)(hr:c.isRest=true):hasRest cs=true:=by have:=l i c h hr;unfold hasRest;rw[List.getLast?_eq_getElem?,<- this,Nat.add_sub_cancel,h];exact hr
theorem mU:∀a:List Int,HT.lexLt a a=false
 |[]=>rfl
 |x::xs=>by show (if x=x then HT.lexLt xs xs else decide (x < x))=false;rw[if_pos rfl];exact mU xs
theorem gv:∀a b:List Int,HT.lexLt a b=false->HT.lexLt b a=false->a=b
 |[],[],_,_=>rfl
 |[],_::_,h,_=>(by cases h)
 |_::_,[],_,h=>(by cases h)
 |x::xs,y::ys,h1,h2=>by
  have e1:(if x=y then HT.lexLt xs ys else decide (x < y))=false:=h1;have e2:(if y=x then HT.lexLt ys xs else decide (y < x))=false:=h2;by_cases e:x=y
  .rw[if_pos e] at e1;rw[if_pos e.symm] at e2;rw[e,gv xs ys e1 e2]
  .rw[if_neg e,decide_eq_false_iff_not] at e1;rw[if_neg (Ne.symm e),decide_eq_false_iff_not] at e2;lia
theorem gw:∀a b c:List Int,HT.lexLt a b=true->HT.lexLt b c=true->HT.lexLt a c=true
 |[],[],_,h,_=>(by cases h)
 |[],_::_,[],_,h=>(by cases h)
 |[],_::_,_::_,_,_=>(rfl)
 |_::_,[],_,h,_=>(by cases h)
 |_::_,_::_,[],_,h=>(by cases h)
 |x::xs,y::ys,z::zs,h1,h2=>by
  have e1:(if x=y then HT.lexLt xs ys else decide (x < y))=true:=h1;have e2:(if y=z then HT.lexLt ys zs else decide (y < z))=true:=h2;show (if x=z then HT.lexLt xs zs else decide (x < z))=true;by_cases a:x=y <;> by_cases b:y=z
  .rw[if_pos a] at e1;rw[if_pos b] at e2;rw[if_pos (a.trans b)];exact gw xs ys zs e1 e2
  .rw[if_neg b,decide_eq_true_eq] at e2;rw[if_neg (by lia)];exact (decide_eq_true (by lia))
  .rw[if_neg a,decide_eq_true_eq] at e1;rw[if_neg (by lia)];exact (decide_eq_true (by lia))
  .rw[if_neg a,decide_eq_true_eq] at e1;rw[if_neg b,decide_eq_true_eq] at e2;rw[if_neg (by lia)];exact (decide_eq_true (by lia))
theorem B3 {a b c:List Int}(h1:HT.lexLt a b=false)(h2:HT.lexLt b c=false):HT.lexLt a c=false:=by
 cases e:HT.lexLt a c with
 |false=>rfl
 |true=>
  cases e2:HT.lexLt b a with
  |true=>have:=gw b a c e2 e;rw[h2] at this;cases this
  |false=>have:=gv a b h1 e2;subst this;rw[e] at h2;cases h2
theorem mV:∀a:List Pc,moreM a a=false
 |[]=>rfl
 |x::xs=>by unfold moreM;rw[if_pos rfl];exact mV xs
theorem gy:∀{a b c:List Pc},moreM a b=true->moreM b c=true->moreM a c=true
 |[],[],_,h,_=>(by cases h)
 |[],_::_,[],_,h=>(by cases h)
 |[],_::_,_::_,_,_=>(rfl)
 |_::_,[],_,h,_=>(by cases h)
 |_::_,_::_,[],_,h=>(by cases h)
 |x::xs,y::ys,z::zs,h1,h2=>by
  unfold moreM at h1 h2 ⊢;by_cases a:worthM x=worthM y <;> by_cases b:worthM y=worthM z
  .rw[if_pos a] at h1;rw[if_pos b] at h2;rw[if_pos (a.trans b)];exact gy h1 h2
  .rw[if_neg b] at h2;rw[if_neg (λz=>b (a.symm.trans z)),a];exact h2
  .rw[if_neg a] at h1;rw[if_neg (λz=>a (z.trans b.symm)),<- b];exact h1
  .rw[if_neg a] at h1;rw[if_neg b] at h2;have:=gw _ _ _ h2 h1;rw[if_neg (λe=>by rw[e,mU] at this;cases this)];exact this
theorem B4 {a b:List Pc}(h:moreM a b=true):moreM b a=false:=by
 cases e:moreM b a with
 |false=>rfl
 |true=>have:=gy h e;rw[mV] at this;cases this
theorem mW:∀{a b c:List Pc},moreM a b=false->moreM b c=false->moreM a c=false
 |[],[],_,_,h=>h
 |[],_::_,_,h,_=>(by cases h)
 |_::_,[],[],_,_=>(rfl)
 |_::_,[],_::_,_,h=>(by cases h)
 |_::_,_::_,[],_,_=>(rfl)
 |x::xs,y::ys,z::zs,h1,h2=>by
  unfold moreM at h1 h2 ⊢;by_cases a:worthM x=worthM y <;> by_cases b:worthM y=worthM z
  .rw[if_pos a] at h1;rw[if_pos b] at h2;rw[if_pos (a.trans b)];exact mW h1 h2
  .rw[if_neg b] at h2;rw[if_neg (λz=>b (a.symm.trans z)),a];exact h2
  .rw[if_neg a] at h1;rw[if_neg (λz=>a (z.trans b.symm)),<- b];exact h1
  .rw[if_neg a] at h1;rw[if_neg b] at h2;by_cases c:worthM x=worthM z
   .rw[c] at h1;exact absurd (gv _ _ h1 h2) b
   .rw[if_neg c];exact B3 h2 h1
noncomputable def mostM {α:Type}(mr:α->α->Bool)(b:α):List α->α
 |[]=>b
 |e::r=>mostM mr (if mr e b=true then e else b) r
theorem gz {α:Type}{mr:α->α->Bool}(ht:∀a b c,mr a b=true->mr b c=true->mr a c=true)(hn:∀a b c,mr a b=false->mr b c=false->mr a c=false)(hs:∀a b,mr a b=true->mr b a=false) :
  ∀(L pre mid:List α) (b:α),(∀t∈pre,mr b t=true/\mr t b=false)->(∀t∈mid,mr t b=false) ->
   ∃pr po,pre++b::mid++L=pr++mostM mr b L::po/\(∀t∈pr,mr (mostM mr b L) t=true/\mr t (mostM mr b L)=false)/\∀t∈po,mr t (mostM mr b L)=false
 |[],pre,mid,b,h1,h2=>⟨pre,mid,by simp[mostM],h1,h2⟩
 |e::r,pre,mid,b,h1,h2=>by
  unfold mostM;by_cases he:mr e b=true
  .rw[if_pos he];have hall:∀t∈pre++b::mid,mr e t=true/\mr t e=false:=λt ht'=>by
    have hb:mr t b=false\/t=b:=by
     rcases mem_append.mp ht' with y|y
     .exact .inl (h1 t y).2
     .rcases mem_cons.mp y with y|y
      .exact .inr y
      .exact .inl (h2 t y)
    rcases hb with hb|rfl
    .have:mr e t=true:=by
      cases x:mr e t with
      |true=>rfl
      |false=>rw[hn e t b x hb] at he;cases he
     exact⟨this,hs _ _ this⟩
    .exact⟨he,hs _ _ he⟩
   obtain⟨pr,po,q1,q2,q3⟩:=gz ht hn hs r (pre++b::mid) [] e hall (λt h=>by cases h);exact⟨pr,po,by rw[<- q1];simp,q2,q3⟩
  .rw[if_neg he];obtain⟨pr,po,q1,q2,q3⟩:=gz ht hn hs r pre (mid++[e]) b h1 (λt h=>by
    rcases mem_append.mp h with y|y
    .exact h2 t y
    .rw[mem_singleton.mp y];exact (Bool.not_eq_true _).mp he)
   exact⟨pr,po,by rw[<- q1];simp,q2,q3⟩
theorem B5 {α:Type}{mr:α->α->Bool}(ht:∀a b c,mr a b=true->mr b c=true->mr a c=true)(hn:∀a b c,mr a b=false->mr b c=false->mr a c=false)(hs:∀a b,mr a b=true->mr b a=false)
  {T:List α}{p:α->Bool}{b:α}{L:List α} (h:T.filter p=b::L) :
  ∃pr po,T=pr++mostM mr b L::po/\p (mostM mr b L)=true/\(∀t∈pr,p t=true->mr (mostM mr b L) t=true/\mr t (mostM mr b L)=false)/\∀t∈po,p t=true->mr t (mostM mr b L)=false:=by
 obtain⟨pr,po,q1,q2,q3⟩:=gz ht hn hs L [] [] b (λt h=>by cases h) (λt h=>by cases h);have e:T.filter p=pr++mostM mr b L::po:=by rw[h,<- q1];simp
 obtain⟨t1,t2,e1,e2,e3⟩:=List.filter_eq_append_iff.mp e;obtain⟨u1,u2,e4,e5,e6,e7⟩:=List.filter_eq_cons_iff.mp e3;refine⟨t1++u1,u2,by rw[e1,e4];simp,e6,λt dl hp=>?_,λt dl hp=>q3 t (by rw[<- e7];exact mem_filter.mpr ⟨dl,hp⟩)⟩;rcases mem_append.mp dl with y|y
 .exact q2 t (by rw[<- e2];exact mem_filter.mpr ⟨y,hp⟩)
 .exact absurd hp (e5 t y)
theorem B6 (a b:Int):PyData.eqv (.int a) (.int b)=true↔a=b:=by simp[PyData.eqv]
theorem B7 (a b:List Int):PyData.eqv (.tuple (a.map PyData.int)) (.tuple (b.map PyData.int))=decide (a=b):=by rw[Bool.eq_iff_iff,decide_eq_true_eq,PyData.eqv];exact dZ B6 _ _
theorem mX (l:List Int):SeqAt.shaped (.tuple (l.map PyData.int))=true:=by refine LayAt.shaped (n:=1) (LayAt.tup (n:=0) λd hd=>?_) (by decide);obtain⟨c,hc,rfl⟩:=mem_map.mp hd;exact⟨rfl,Nat.le_refl _⟩
theorem PcOk.tx {c:Pc}(o:PcOk c):PcTx c:=by
 cases c with
 |step w=>exact⟨Nat.zero_le _,Nat.zero_le _,λw' h=>by cases h;have:=o.2.1;lia⟩
 |part a n b=>exact⟨by have:=o.1;show a.length<=_;lia,by have:=o.2.1;show b.length<=_;lia,λw h=>by cases h⟩
 |_=>exact⟨Nat.zero_le _,Nat.zero_le _,λw h=>by cases h⟩
structure Wdr (c d:Pc):Prop where
 ok:PcOk d
 fit:∀s,fitsM c s=true->fitsM d s=true
 le:HT.lexLt (worthM c) (worthM d)=false
 nr:d.isRest=c.isRest
theorem B8 {n:Nat}(h:n < 10 ^ 60):numB (dg (n:Int))=true:=by
 have hd:=gS n;have ed:dg (n:Int)=(Nat.toDigits 10 n).map Char.toNat:=by unfold dg;rw[PySem.W.KIN.signs_num]
 have Cl:=dU (i:=(n:Int)) (by lia);have mt:(dg (n:Int)).length<=60:=by rw[ed,length_map];exact AG h
 have ld:dg (n:Int)≠[]:=by rw[ed];exact hd.2.1
 unfold numB;have dl:1<=(dg (n:Int)).length:=length_pos_iff.mpr ld;have BT:(dg (n:Int)).all isFig=true:=all_eq_true.mpr λx hx=>by have:=Cl x hx;simp only[isFig,Bool.and_eq_true,decide_eq_true_eq];exact this
 rw[decide_eq_true dl,decide_eq_true mt,BT];by_cases h0:(dg (n:Int)).head?=some 48
 .rw[ed] at h0;have:=hd.2.2 h0;subst this;rw[show dg ((0:Nat):Int)=[48] by fail "k"];decide
 .rw[decide_eq_false h0];simp
end Wm
namespace L2
open PySem PySem.Spec PyProof.Rows
section
variable {X:Cx}
end
end L2
namespace HT
open PySem PyProof.Rows
section
open PySem.SeqAt
open PySem.AutoSeq1 (wpAny_loadPart')
open PySem.MeetsSeq PySem.MeetsSeq2 PySem.MeetsSeq3
variable {α:Type}{eqf gtf:α->α->Bool}{l b:Addr}{us ws:Array Value}{n n2:Nat}{dd dd2:Option Addr}{sl sl2:Array (Option Value)}{xs ys:List α}
end
end HT
namespace L2
open PySem PySem.Spec PyProof.Rows
section
variable {X:Cx}
end
section
variable {X:Cx}
theorem mY:∀(l:List Str) (n:Nat),Vals (l.map V.str) (strsFrom n l)
 |[],_=>.nil
 |z::l,n=>.cons ⟨n,rfl⟩ (mY l (n+1))
def rSplit:V->List V->Hp->VK->Prop:=λx vs H Q=>∃(z:Str) (c:Nat),x=.str z/\vs=[.str ⟨#[c]⟩]/\z.length<=100000/\∀p,H p=none->Q (.ref p) (upd H p (.lst ((Txt.split z ⟨#[c]⟩).map V.str)))
theorem B9:MtR X "str.split" rSplit:=by
 intro ld s Z H x vs v us Q I rx rv h;obtain⟨z,c,rfl,rfl,hz,q⟩:=h;obtain⟨t,rfl⟩:=rx;obtain⟨u,rfl,t',rfl⟩:=vals1 rv;have hf:H s.heap.objs.size=none:=I.hok.fresh (Nat.le_refl _);have q:=q _ hf;have hw:=split_weight z ⟨#[c]⟩ (Nat.le_refl 1);have mt:z.length<=sizeLine:=Nat.le_trans hz (by decide);unfold Txt.split at q hw;cases h1:(decide (z.length < (⟨#[c]⟩:Str).length) || decide (Builtin.Str.strKind z < Builtin.Str.strKind ⟨#[c]⟩)) with
 |true=>rw[if_pos h1] at q;refine call_meets F.slot_str_split (typeIs_str _ _ _) F.entry_str_split (F.args_str_split_2 _ _) (meets_str_split_cannot_occur z ⟨#[c]⟩ t t' h1) ?_;refine⟨.ref s.heap.objs.size,_,I.laid (t':=s.toks) (o:=.lst [.str z]) (λb u e=>Heap.get?_push_of_some _ e) (Nat.le_refl _) ?_,rfl,q⟩;exact⟨by show 1<=sizeLine;decide,[.str z t],0,.cons ⟨_,rfl⟩ .nil,Heap.get?_push_size _ rfl⟩
 |false=>
  rw[if_neg (by rw[h1];decide)] at q hw;cases h2:(Builtin.Str.occurrences z ⟨#[c]⟩ 0 z.length (z.length+1)).isEmpty with
  |true=>rw[if_pos h2] at q;refine call_meets F.slot_str_split (typeIs_str _ _ _) F.entry_str_split (F.args_str_split_2 _ _) (meets_str_split_not_found z ⟨#[c]⟩ t t' h1 rfl h2) ?_;refine⟨.ref s.heap.objs.size,_,I.laid (t':=s.toks) (o:=.lst [.str z]) (λb u e=>Heap.get?_push_of_some _ e) (Nat.le_refl _) ?_,rfl,q⟩;exact⟨by show 1<=sizeLine;decide,[.str z t],0,.cons ⟨_,rfl⟩ .nil,Heap.get?_push_size _ rfl⟩
  |false=>
   rw[if_neg (by rw[h2];decide)] at q hw;have hn:(Builtin.Str.partsBetween z (Builtin.Str.occurrences z ⟨#[c]⟩ 0 z.length (z.length+1)) (⟨#[c]⟩:Str).length).length<=100001:=by lia
   have dl:(Builtin.Str.partsBetween z (Builtin.Str.occurrences z ⟨#[c]⟩ 0 z.length (z.length+1)) (⟨#[c]⟩:Str).length).length<=sizeLine:=Nat.le_trans hn (by decide);refine call_meets F.slot_str_split (typeIs_str _ _ _) F.entry_str_split (F.args_str_split_2 _ _) (meets_str_split_sep z ⟨#[c]⟩ t t' h1 rfl h2 mt dl) ?_;refine⟨.ref s.heap.objs.size,_,I.laid (o:=.lst _) (λb u e=>Heap.get?_push_of_some _ e) (Nat.le_refl _) ?_,rfl,q⟩;exact⟨by rw[length_map];exact dl,_,0,mY _ _,Heap.get?_push_size _ rfl⟩
end
theorem Ba {z:Str}{c:Nat}{H:Hp}{Q:VK}:rSplit (.str z) [.str ⟨#[c]⟩] H Q↔z.length<=100000/\∀p,H p=none->Q (.ref p) (upd H p (.lst ((Txt.split z ⟨#[c]⟩).map V.str))):=by
 constructor
 .rintro⟨z',c',e1,e2,h⟩;cases e1;cases e2;exact h
 .exact λh=>⟨z,c,rfl,rfl,h⟩
noncomputable def sitO (x:Str)(t:Tok):Obj:={ cls:=.type "str_ascii_iterator",data:=.fields #[.str x t,.int 0 0]}
theorem Bb (x:Str)(t:Tok)(hx:(x.cps.all λc=>decide (c < 128))=true):Meets (Builtin.«enumerate.__new__» ⟨[.type "enumerate",.str x t],[]⟩) (λ_ R s=>
  R (.ok (.ret (.ref (s.heap.push (sitO x t)).objs.size))) {s with heap:=(s.heap.push (sitO x t)).push (enuO s.heap.objs.size)}):=
 .of_wp λprog w A R s h=>by
  obtain⟨hp,g,d,tk,os⟩:=s;have hsub:=sub_enumerate
  wp_walk using wpAny_pyIter_ascii hx
  refine wpAny_stack_any λ_=>wpAny_pure ?_;split
  .rename_i z _ _ _ _ _;cases (z == Value.type "enumerate") <;> (wp_walk using wpAny_pyIter_ascii hx) <;> exact⟨_,rfl,h⟩
  .wp_walk using wpAny_pyIter_ascii hx
   exact⟨_,rfl,h⟩
section
variable {prog:Program}{w:World}{A:Around}{E:Value->Shared->Prop}{s:Shared}
theorem Bc {x:Str}{t:Tok}{Q:Value->Shared->Prop}(hx:(x.cps.all λc=>decide (c < 128))=true)
  (h:∀h',IsEnum h' (s.heap.objs.size+1) s.heap.objs.size 0 .none->h'.IsStrIter s.heap.objs.size "str_ascii_iterator" x t 0->(∀b o,s.heap.get? b=some o->h'.get? b=some o)->Q (.ref (s.heap.objs.size+1)) {s with heap:=h' }) :
  wpAny (model prog w) A (call (.type "enumerate") [.str x t]) Q E s:=by
 refine callType_new F.called_enumerate (by decide) (F.typeCall_enumerate_1 _) (F.newCall_enumerate_1 _) (λdl=>F.args_object_init_2 dl _) F.entry_enumerate_new (Bb x t hx) ?_;have hz:(s.heap.push (sitO x t)).objs.size=s.heap.objs.size+1:=Heap.size_push ..;show _/\_;rw[hz];have he:IsEnum ((s.heap.push (sitO x t)).push (enuO s.heap.objs.size)) (s.heap.objs.size+1) s.heap.objs.size 0 .none:=by have:=Heap.get?_push_size (s.heap.push (sitO x t)) (o:=enuO s.heap.objs.size) rfl;rw[hz] at this;exact this
 exact⟨⟨_,he,rfl⟩,h _ he ⟨_,Heap.get?_push_of_some _ (Heap.get?_push_size _ rfl),rfl,rfl⟩ λb o x=>Heap.get?_push_of_some _ (Heap.get?_push_of_some _ x)⟩
end
noncomputable def ItES (x:Str):It:=ItW x.cps.size (λ_=>True) λi _ ys=>∃c,x.cps[i]?=some c/\ys=[.int (i:Int),.str ⟨#[c]⟩]
theorem Bd {P:Program}{w:World}{K:W.Frag}{elts:List Expr}{k:Nat}{pos:Pos}(it e:Addr)(x:Str)(t:Tok)(h2:e≠it) :
  Turn P w K (.Tuple elts k pos) (ItES x) [e,it] e (λi h=>(∃old,IsEnum h e it i old)/\h.IsStrIter it "str_ascii_iterator" x t i):=by
 refine du (fp:=e::[it]) (α:=Unit) (Pt:=λ_ i dl=>∃t' v,(∃c u,x.cps[i]?=some c/\v=Value.str ⟨#[c]⟩ u)/\dl=#[.int i t',v])
  (Sn:=λ_ i h=>(∃old,IsEnum h e it i old)/\h.IsStrIter it "str_ascii_iterator" x t i) (Mid:=λ_ i T h=>(∃x,IsEnumOut h e it ((i:Int)+1) x T)/\h.IsStrIter it "str_ascii_iterator" x t (i+1)/\T≠e/\T≠it)
  (by simp) (λ_ z=>z) (λA z hh=>?_) (λA i s Q E st q=>?_) (λi h st b hb=>?_) (λi h h' st kp=>?_) ?_ (λz i h st=>⟨st.1,st.2⟩)
 .exact WalksT.enumerateD (Draws.strAscii (prog:=P) (w:=w) (A:=A.in1) hh it x t) e h2 (by simp[h2]) (by simp)
 .obtain⟨⟨old,he⟩,_⟩:=st;exact wpAny_pyIter_enum he q
 .obtain⟨⟨old,he⟩,o,ho,hc,hd⟩:=st;rcases mem_cons.mp hb with rfl|hb
  .exact⟨_,he,λv z=>by cases z⟩
  .rw[mem_singleton.mp hb];exact⟨o,ho,λv z=>by rw[hd] at z;cases z⟩
 .obtain⟨⟨old,he⟩,o,ho,r⟩:=st;exact⟨⟨old,kp e (by simp) _ he⟩,o,kp it (by simp) o ho,r⟩
 .intro X hP hw hK i ld s Z H J hf st mt;subst hP hw hK;refine⟨(),⟨st.1,st.2⟩,?_⟩;rintro dl ⟨t',v,⟨c,u,hc,rfl⟩,rfl⟩;exact⟨[.int (i:Int),.str ⟨#[c]⟩],(show 2<=sizeLine by decide),.cons ⟨t',rfl⟩ (.cons ⟨u,rfl⟩ .nil),c,hc,rfl⟩
section
variable {X:Cx}{elts:List Expr}{kk:Nat}{tpos:Pos}
def iEnumS (ta:TA):TI:=λZ H R=>ta Z H λvs H1=>∃x:Str,vs=[.str x]/\(x.cps.all λc=>decide (c < 128))=true/\R (ItES x) H1
theorem Be {a:Expr}{ta:TA}{p pos:Pos}(hg:Gl X "enumerate")(hm:X.mg "enumerate"=none)(ha:PA X [a] ta)(hs:starEach [a] X.env=[(false,eval a X.env)]:=by rfl):PI X (.Tuple elts kk tpos) (.Call (.Name "enumerate" p) [a] [] pos) (iEnumS ta):=by
 intro dl s Z H R I q;refine Call_ (az I hg hm boot_enumerate (PyProof.Rows.callWith_type1 (thn (ha pos dl s Z H _ I q) λus s1 W'=>?_) hs rfl));obtain⟨vs,H1,I1,r1,q1⟩:=W';obtain⟨x,e,hx,q⟩:=q1;subst e;obtain⟨u,rfl,t,rfl⟩:=vals1 r1;refine Bc hx λh' he hi hk=>?_;refine wpAny_pyIter_enum (s:={ s1 with heap:=h' }) he ?_;have ld:Inv X dl Z H1 {s1 with heap:=h' }:=I1.kept (t':=s1.toks) hk;refine⟨s1.heap.objs.size+1,[s1.heap.objs.size+1,s1.heap.objs.size],_,_,H1,rfl,ld,Bd s1.heap.objs.size (s1.heap.objs.size+1) x t (Nat.succ_ne_self _),⟨⟨_,he⟩,hi⟩,λb hb=>?_,q⟩;simp only[mem_cons,not_mem_nil,or_false] at hb;have mt:s1.heap.objs.size<=b:=by
  rcases hb with rfl|rfl
  .exact Nat.le_succ _
  .exact Nat.le_refl _
 exact I1.fpOk mt (I1.hok.fresh mt)
variable {Z:St}{H:Hp}{D:Ends}{g:TG}{tb:TS}{aa:TA}
theorem Bf:(tFor (iEnumS aa) g tb D Z H)=(aa Z H λvs H1=>∃x:Str,vs=[.str x]/\(x.cps.all λc=>decide (c < 128))=true/\LoopI (ItES x) g tb D Z H1):=rfl
theorem Bg {x:Str}(Pv:Nat->St->Hp->Prop)(h0:Pv 0 Z H)
  (hs:∀i c Z H T,x.cps[i]?=some c->Pv i Z H->H T=none->g (.ref T) Z (upd H T (.tup [.int (i:Int),.str ⟨#[c]⟩])) λZ2 H2=>tb {D with nx:=Pv (i+1),ct:=Pv (i+1),bk:=D.nx} Z2 H2) (hd:∀Z H,Pv x.cps.size Z H->D.nx Z H):LoopI (ItES x) g tb D Z H:=
 dv Pv h0 (λ_ _ _ _ _=>trivial) (λi Z H T ys _ p hT hy=>by obtain⟨c,hc,rfl⟩:=hy;exact hs i c Z H T hc p hT) hd
end
section
variable {κ:Type}[DecidableEq κ]
noncomputable def valV (kvs:List (κ×V))(k:κ):Option V:=(kvs.find? λkv=>decide (kv.1=k)).map (·.2)
noncomputable def putK (kvs:List (κ×V))(k:κ)(v:V):List (κ×V):=
 if (kvs.any λkv=>decide (kv.1=k))=true then kvs.map (λkv=>if kv.1=k then (kv.1,v) else kv) else kvs++[(k,v)]
theorem aq {p:κ×V}{r:List (κ×V)}{k:κ}(e:p.1=k):valV (p::r) k=some p.2:=by simp[valV,List.find?_cons,e]
theorem ar {p:κ×V}{r:List (κ×V)}{k:κ}(e:¬ p.1=k):valV (p::r) k=valV r k:=by simp[valV,List.find?_cons,e]
theorem i6 (k:κ):∀kvs:List (κ×V),(kvs.any λkv=>decide (kv.1=k))=(valV kvs k).isSome
 |[]=>rfl
 |p::r=>by
  rw[any_cons];by_cases e:p.1=k
  .simp only[aq e,decide_eq_true e,Bool.true_or,Option.isSome_some]
  .rw[ar e,decide_eq_false e,Bool.false_or];exact i6 k r
theorem mZ (k j:κ)(y:V):∀kvs:List (κ×V),valV (kvs.map λkv=>if kv.1=k then (kv.1,y) else kv) j=(valV kvs j).map λx=>if j=k then y else x
 |[]=>rfl
 |p::r=>by
  have ih:=mZ k j y r;rw[map_cons];by_cases h:p.1=k
  .rw[if_pos h];by_cases e:p.1=j
   .rw[aq (p:=(p.1,y)) e,aq e,Option.map_some,if_pos (e.symm.trans h)]
   .rw[ar (p:=(p.1,y)) e,ar e,ih]
  .rw[if_neg h];by_cases e:p.1=j
   .rw[aq (p:=p) e,aq e,Option.map_some,if_neg (λz=>h (e.trans z))]
   .rw[ar (p:=p) e,ar e,ih]
theorem ma (k j:κ)(y:V):∀kvs:List (κ×V),valV kvs k=none->valV (kvs++[(k,y)]) j=if j=k then some y else valV kvs j
 |[],_=>by
  by_cases e:k=j
  .rw[if_pos e.symm];exact aq (p:=(k,y)) e
  .rw[if_neg (λz=>e z.symm)];exact ar (p:=(k,y)) e
 |p::r,hn=>by
  rw[cons_append];have hk:¬ p.1=k:=λz=>by rw[aq z] at hn;cases hn
  rw[ar hk] at hn;have ih:=ma k j y r hn;by_cases e:p.1=j
  .rw[aq e,aq e,if_neg (λz=>hk (e.trans z))]
  .rw[ar e,ar e,ih]
theorem md (kvs:List (κ×V))(k j:κ)(y:V):valV (putK kvs k y) j=if j=k then some y else valV kvs j:=by
 unfold putK;by_cases a:(kvs.any λkv=>decide (kv.1=k))=true
 .rw[if_pos a,mZ];rw[i6] at a;by_cases e:j=k
  .obtain⟨x,hx⟩:=Option.isSome_iff_exists.mp a;rw[if_pos e,e,hx,Option.map_some,if_pos rfl]
  .rw[if_neg e];cases valV kvs j with
   |none=>rfl
   |some x=>rw[Option.map_some,if_neg e]
 .rw[if_neg a];refine ma k j y kvs ?_;rw[i6] at a;cases q:valV kvs k with
  |none=>rfl
  |some x=>rw[q] at a;exact (a rfl).elim
theorem Bh (kvs:List (κ×V))(k:κ)(v:V):(putK kvs k v).length<=kvs.length+1:=by
 unfold putK;split
 .rw[length_map];lia
 .rw[length_append,length_cons,length_nil];lia
theorem KV.val {kvs:List (κ×V)}{vs:List (κ×Value)}(r:KV kvs vs)(k:κ):RelO (valV kvs k) (valueAt vs k):=by
 unfold KV at r;induction r with
 |nil=>exact True.intro
 |@cons p q ps qs h t ih=>
  obtain⟨h1,h2⟩:=h;by_cases e:p.1=k
  .have e':q.1=k:=h1.symm.trans e;have b:valueAt (q::qs) k=some q.2:=by simp[valueAt,List.find?_cons,e']
   rw[aq e,b];exact h2
  .have e':¬ q.1=k:=λz=>e (h1.trans z);have b:valueAt (q::qs) k=valueAt qs k:=by simp[valueAt,List.find?_cons,e']
   rw[ar e,b];exact ih
theorem KV.any {kvs:List (κ×V)}{vs:List (κ×Value)}(r:KV kvs vs)(k:κ):(kvs.any λkv=>decide (kv.1=k))=vs.any λkv=>decide (kv.1=k):=by
 unfold KV at r;induction r with
 |nil=>rfl
 |cons h t ih=>rw[any_cons,any_cons,ih,h.1]
theorem KV.repl {kvs:List (κ×V)}{vs:List (κ×Value)}(r:KV kvs vs)(k:κ){y:V}{u:Value}(ry:RelV y u) :
  KV (kvs.map λkv=>if kv.1=k then (kv.1,y) else kv) (vs.map λkv=>if kv.1=k then (kv.1,u) else kv):=by
 unfold KV at r ⊢;induction r with
 |nil=>exact .nil
 |@cons p q ps qs h t ih=>
  rw[map_cons,map_cons];refine .cons ?_ ih;obtain⟨h1,h2⟩:=h;by_cases e:p.1=k
  .rw[if_pos e,if_pos (h1.symm.trans e)];exact⟨h1,ry⟩
  .rw[if_neg e,if_neg (λz=>e (h1.trans z))];exact⟨h1,h2⟩
theorem KV.put {kvs:List (κ×V)}{vs:List (κ×Value)}(r:KV kvs vs)(k:κ){y:V}{u:Value}(ry:RelV y u):KV (putK kvs k y) (stored vs k u):=by
 unfold putK stored;rw[r.any k];by_cases e:(vs.any λkv=>decide (kv.1=k))=true
 .rw[if_pos e,if_pos e];exact r.repl k ry
 .rw[if_neg e,if_neg e];exact Paired.snoc r ⟨rfl,ry⟩
theorem KV.length {kvs:List (κ×V)}{vs:List (κ×Value)}(r:KV kvs vs):kvs.length=vs.length:=Paired.length r
end
theorem i7 {P:Program}{w:World}{k:Key}{u:Value}(r:RelV (kV k) u):(mixKind P w).is k u=true:=by
 cases k with
 |inl i=>obtain⟨t,e⟩:=(show ∃t,u=Value.int i t from r);subst e;exact sQ P w i t
 |inr x=>obtain⟨t,e⟩:=(show ∃t,u=Value.str x t from r);subst e;exact sR P w x t
theorem mf {P:Program}{w:World}:∀{ks:List Key}{us:List Value},Vals (ks.map kV) us->ItemsAre (mixKind P w) ks us
 |[],_,r=>by rw[map_nil] at r;cases r;exact .nil
 |k::ks,_,r=>by
  rw[map_cons] at r;cases r with
  |cons h t=>exact .cons (i7 h) (mf t)
abbrev KT (H:Hp):List (List Key×V)->List (List Key×Addr×Value)->Prop:=Paired λp q=>p.1=q.1/\H q.2.1=some (.tup (p.1.map kV))/\RelV p.2 q.2.2
theorem KT.val {H:Hp}{kvs:List (List Key×V)}{xs:List (List Key×Addr×Value)}(r:KT H kvs xs)(k:List Key):RelO (valV kvs k) ((atKey xs k).map (·.2)):=by
 induction r with
 |nil=>exact True.intro
 |@cons p q ps qs h t ih=>
  obtain⟨h1,_,h2⟩:=h;by_cases e:p.1=k
  .have e':q.1=k:=h1.symm.trans e;have b:atKey (q::qs) k=some q.2:=by simp[atKey,List.find?_cons,e']
   rw[aq e,b];exact h2
  .have e':¬ q.1=k:=λz=>e (h1.trans z);have b:atKey (q::qs) k=atKey qs k:=by simp[atKey,List.find?_cons,e']
   rw[ar e,b];exact ih
section
variable {P:Program}{w:World}{H:Hp}{h:Heap}{a:Addr}
theorem mh {u:HO}(ok:HOk P w H h)(e:Rd H a u):ObjOk P w H h a u:=e.ok ok
theorem mi {kvs:List (Key×V)}(ok:HOk P w H h)(e:Rd H a (.dK kvs)):kvs.length<=sizeLine/\(a == sysModules)=false/\∃vs,KV kvs vs/\h.DictOf (mixKind P w) a vs:=
 show ObjOk P w H h a (.dK kvs) from mh ok e
theorem mj {ks:List Key}(ok:HOk P w H h)(e:H a=some (.tup (ks.map kV))):(tupleKind (mixKind P w)).is h ks a:=by obtain⟨_,its,r,o,h1,h2,n,h3⟩:=(show ObjOk P w H h a (.tup (ks.map kV)) from ok a _ e);exact⟨o,its.toArray,n,h1,h2,h3,by simpa using mf r⟩
theorem mn {kvs:List (List Key×V)}(ok:HOk P w H h)(e:Rd H a (.dT kvs)):kvs.length<=sizeLine/\(a == sysModules)=false/\
  ∃xs,KT H kvs xs/\h.DictOfH (tupleKind (mixKind P w)) a xs:=by
 obtain⟨z,y,xs,r,o,es,ep,h1,h2,h3,h4,h5⟩:=(show ObjOk P w H h a (.dT kvs) from mh ok e);refine⟨z,y,xs,r,o,es,ep,h1,h2,h3,h4,λx hx=>?_,h5⟩;have dl:∀{l:List (List Key×V)}{m:List (List Key×Addr×Value)},KT H l m->∀x∈m,(tupleKind (mixKind P w)).is h x.1 x.2.1:=by
  intro l m q;induction q with
  |nil=>intro x hx;exact nomatch hx
  |@cons p q ps qs hq t ih=>
   intro x hx;rcases mem_cons.mp hx with e|hx
   .subst e;exact mj ok (by rw[<- hq.1];exact hq.2.1)
   .exact ih x hx
 exact dl r x hx
end
def DGet (H:Hp)(a:Addr)(y:V)(r:Option V):Prop:=
 (∃kvs k,Rd H a (.dK kvs)/\y=kV k/\r=valV kvs k)\/∃kvs k b,Rd H a (.dT kvs)/\y=.ref b/\H b=some (.tup (k.map kV))/\r=valV kvs k
def DPut (H:Hp)(a:Addr)(y v:V)(H':Hp):Prop:=
 (∃kvs k,H a=some (.dK kvs)/\y=kV k/\kvs.length < sizeLine/\H'=upd H a (.dK (putK kvs k v)))\/
 ∃kvs k b,H a=some (.dT kvs)/\y=.ref b/\H b=some (.tup (k.map kV))/\kvs.length < sizeLine/\H'=upd H a (.dT (putK kvs k v))
theorem DGet.k {H:Hp}{a:Addr}{kvs:List (Key×V)}{k:Key}(e:H a=some (.dK kvs)):DGet H a (kV k) (valV kvs k):=.inl ⟨kvs,k,.inl e,rfl,rfl⟩
theorem DGet.t {H:Hp}{a b:Addr}{kvs:List (List Key×V)}{k:List Key}(e:H a=some (.dT kvs))(eb:H b=some (.tup (k.map kV))):DGet H a (.ref b) (valV kvs k):=.inr ⟨kvs,k,b,.inl e,rfl,eb,rfl⟩
theorem DPut.t {H:Hp}{a b:Addr}{kvs:List (List Key×V)}{k:List Key}{v:V}(e:H a=some (.dT kvs))(eb:H b=some (.tup (k.map kV)))(hl:kvs.length < sizeLine) :
  DPut H a (.ref b) v (upd H a (.dT (putK kvs k v))):=.inr ⟨kvs,k,b,e,rfl,eb,hl,rfl⟩
section
variable {X:Cx}{pins:List (Addr×Obj)}{Z:St}{H:Hp}{s:Shared}{a:Addr}{y v:V}{u r:Value}{o:Option V}{A:Around}{E:Value->Shared->Prop}
theorem Inv.big (I:Inv X pins Z H s):sysModules < s.heap.objs.size:=by have h:mainGlobals < s.heap.objs.size:=(I.mod.glob.keeps I.bk).lt;exact Nat.lt_trans (by decide) h
theorem Bi {Q:Value->Shared->Prop}(hu:A.units+1 < cLine)(I:Inv X pins Z H s)(g:DGet H a y (some v))(ry:RelV y u)(h:∀w' s',Inv X pins Z H s'->RelV v w'->Q w' s') :
  wpAny (model X.prog X.w) A (getItem (.ref a) u) Q E s:=by
 rcases g with⟨mt,k,e,ey,l⟩|⟨mt,k,b,e,ey,eb,l⟩
 .subst ey;obtain⟨z,hd,vs,ld,dd⟩:=mi I.hok e;obtain⟨w',hw,dl⟩:=RelO.some_of (v:=v) (o:=valueAt vs k) (by rw[l];exact ld.val k);exact wpAny_getItem_of (i7 ry) dd.mapOf hw (h w' _ (I.tok _) dl)
 .subst ey;cases (show u=Value.ref b from ry);obtain⟨z,hd,xs,ld,dd⟩:=mn I.hok e;obtain⟨w',hw,dl⟩:=RelO.some_of (v:=v) (o:=(atKey xs k).map (·.2)) (by rw[l];exact ld.val k);obtain⟨p,hp,BT⟩:=Option.map_eq_some_iff.mp hw;refine wpAny_getItem_heap (tupleKind_room_in1 hu) (mj I.hok eb) dd hp ?_;rw[BT];exact h w' _ (I.tok _) dl
theorem Bj {P:Program}{w:World}{H':Hp}{h':Heap}{kvs:List (Key×V)}{vs:List (Key×Value)}(z:kvs.length<=sizeLine)(hd:(a == sysModules)=false)(rel:KV kvs vs)(dd:h'.DictOf (mixKind P w) a vs) :
  ObjOk P w H' h' a (.dK kvs):=⟨z,hd,vs,rel,dd⟩
end
section
variable {X:Cx}{pins:List (Addr×Obj)}{Z:St}{H:Hp}{s:Shared}{a:Addr}{kvs:List (Key×V)}{k:Key}{u:Value}{A:Around}{E:Value->Shared->Prop}
end
def NoSl (i:Expr):Prop:=∀ov iv,subscripted i false ov iv=operate [ov,iv] (getItem ov iv)
theorem Bk {prog:Program}{w:World}{A:Around}{E:Value->Shared->Prop}{s:Shared}{env:Env}{value slice:Expr}{pos:Pos}{T id:String}{Q:Value->Shared->Prop}
  (hl:typeLookup (.type T) "__getitem__"=pure (some (.builtin id))) (hs:NoSl slice)
  (h:wpAny (model prog w) A (eval value env) (λo s₁=>wpAny (model prog w) A (eval slice env) (λi s₂=>s₂.TypeIs o T/\wpAny (model prog w) A (getItem o i) Q E s₂) E s₁) E s) :
  wpAny (model prog w) A (eval (.Subscript value slice pos) env) Q E s:=by
 refine Subscript_ (wpAny_mono h (λo s₁ h₁=>wpAny_mono h₁ (λi s₂ h₂=>?_) λ_ _ x=>x) λ_ _ x=>x);obtain⟨hT,h₂⟩:=h₂;unfold subscriptTail;refine wpAny_bind ?_;rw[getitemInPython_of_ne hT.not_modules];refine wpAny_bind (wpAny_specialOf hT hl ?_);have dl:wpAny (model prog w) A (subscripted slice false o i) (λr s₃=>wpAny (model prog w) A (letTemporaryGo value o r >>= λ_=>pure r) Q E s₃) E s₂:=by rw[hs o i];exact wpAny_operating (wpAny_mono h₂ (λr s₃ h₃=>wpAny_bind (wpAny_letTemporaryGo (wpAny_pure h₃))) λ_ _ x=>x)
 first
  |exact wpAny_pure (wpAny_bind dl)
  |exact wpAny_bind (wpAny_pure (wpAny_bind dl))
  |exact wpAny_bind dl
theorem Bl {X:Cx}{pins:List (Addr×Obj)}{Z:St}{H:Hp}{s:Shared}{a:Addr}{y:V}{o:Option V}(I:Inv X pins Z H s)(g:DGet H a y o):s.TypeIs (.ref a) "dict" := by
 rcases g with⟨kvs,k,e,_,_⟩|⟨kvs,k,b,e,_,_,_⟩
 .obtain⟨_,_,vs,_,dd⟩:=mi I.hok e;exact dd.typeIs
 .obtain⟨_,_,xs,_,dd⟩:=mn I.hok e;exact dd.typeIs
def tDGet (td ty:TE):TE:=λZ H Q=>td Z H λx H1=>ty Z H1 λy H2=>∃a v,x=.ref a/\DGet H2 a y (some v)/\Q v H2
section
variable {X:Cx}{o i e value:Expr}{pos pos' tpos:Pos}{td ty tv:TE}
theorem i8 (hu:X.A.units+1 < cLine)(ho:PE X o td)(hi:PE X i ty)(hs:NoSl i):PE X (.Subscript o i pos) (tDGet td ty):=by intro dl s Z H Q I h;refine Bk PySem.F.slot_dict_getitem.lookup hs (thn (ho dl s Z H _ I h) λu s1 ⟨x,H1,I1,rx,q1⟩=>thn (hi dl s1 Z H1 _ I1 q1) λiv s2 W'=>?_);obtain⟨y,H2,I2,ry,a,v,ex,g,q2⟩:=W';subst ex;obtain rfl:u=Value.ref a:=rx;exact⟨Bl I2 g,Bi hu I2 g ry λw' s3 I3 ld=>⟨v,H2,I3,ld,q2⟩⟩
end
section
variable {X:Cx}{pos:Pos}
end
noncomputable def mergeK (kvs more:List (Key×V)):List (Key×V):=more.foldl (λacc kv=>putK acc kv.1 kv.2) kvs
theorem KV.merge:∀{more:List (Key×V)}{rs:List (Key×Value)}{kvs:List (Key×V)}{vs:List (Key×Value)},KV more rs->KV kvs vs->KV (mergeK kvs more) (merged vs rs):=by
 intro more rs kvs vs r;unfold KV at r;induction r generalizing kvs vs with
 |nil=>intro q;exact q
 |@cons p q ps qs h t ih=>
  intro r0;have e:KV (putK kvs p.1 p.2) (stored vs q.1 q.2):=by have:=r0.put p.1 h.2;rw[<- h.1];exact this
  exact ih e
theorem mq:∀(more kvs:List (Key×V)),(mergeK kvs more).length<=kvs.length+more.length
 |[],kvs=>by show kvs.length<=kvs.length+0;lia
 |p::r,kvs=>by have h1:=mq r (putK kvs p.1 p.2);have h2:=Bh kvs p.1 p.2;show (mergeK (putK kvs p.1 p.2) r).length<=_;rw[length_cons];lia
structure M1 (X:Cx)(o:Expr)(m:Str)(apos:Pos)(e:Expr)(cpos:Pos):Prop where
 base:attributeBase o m X.env (eval o X.env)=eval o X.env
 few:((backTo cpos (starEach [e] X.env)).all (λx=>!x.1) && (backToKw cpos (keywordEach [] X.env)).all (λx=>x.1.isSome)
  && decide (([e]:List Expr).length+([]:List Keyword).length+(if ([]:List Keyword).isEmpty then 0 else 1) < 30))=true
 line:(apos.endLine == cpos.line)=true
 trees:backTo cpos (starEach [e] X.env)=[(false,eval e X.env)]
structure M2 (X:Cx)(o:Expr)(m:Str)(apos:Pos)(e f:Expr)(cpos:Pos):Prop where
 base:attributeBase o m X.env (eval o X.env)=eval o X.env
 few:((backTo cpos (starEach [e,f] X.env)).all (λx=>!x.1) && (backToKw cpos (keywordEach [] X.env)).all (λx=>x.1.isSome)
  && decide (([e,f]:List Expr).length+([]:List Keyword).length+(if ([]:List Keyword).isEmpty then 0 else 1) < 30))=true
 line:(apos.endLine == cpos.line)=true
 trees:backTo cpos (starEach [e,f] X.env)=[(false,eval e X.env),(false,eval f X.env)]
section
variable {X:Cx}{pins:List (Addr×Obj)}{Z:St}{H:Hp}{s:Shared}{a:Addr}{y d:V}{u r:Value}{o:Option V}{A:Around}{E:Value->Shared->Prop}
end
section
variable {X:Cx}{o e f:Expr}{apos cpos:Pos}{td ty tx:TE}
end
section
variable {X:Cx}{pins:List (Addr×Obj)}{Z:St}{H:Hp}{s:Shared}{a:Addr}{kvs:List (Key×V)}{A:Around}{E:Value->Shared->Prop}
end
section
variable {X:Cx}{pins:List (Addr×Obj)}{Z:St}{H:Hp}{s:Shared}{a:Addr}{y:V}{u:Value}{A:Around}{E:Value->Shared->Prop}
end
end L2
namespace PySem
open PyProof.Rows
section
variable {K:Type}[DecidableEq K]
noncomputable def fstU (l:List K):List K:=l.foldl (λacc k=>if k∈acc then acc else acc++[k]) []
theorem i9 (l:List K)(k:K):fstU (l++[k])=if k∈fstU l then fstU l else fstU l++[k]:=by unfold fstU;rw[List.foldl_append];rfl
theorem iA:∀(n:Nat) (l:List K),l.length=n->∀k,k∈fstU l↔k∈l
 |0,l,h,k=>by rw[length_eq_zero_iff.mp h];exact Iff.rfl
 |n+1,l,h,k=>by
  obtain⟨l',x,rfl⟩:∃l' x,l=l'++[x]:=⟨l.dropLast,l.getLast (λz=>by rw[z] at h;cases h),(List.dropLast_concat_getLast _).symm⟩;have ih:=iA n l' (by rw[length_append,length_singleton] at h;lia);rw[i9,mem_append,mem_singleton];split
  .next hx=>
   rw[ih k];exact⟨.inl,λz=>by rcases z with z|rfl;exact z;exact (ih _).mp hx⟩
  .rw[mem_append,mem_singleton,ih k]
theorem eD:∀(n:Nat) (l:List K),l.length=n->((fstU l).length<=l.length/\((fstU l).length=l.length↔l.Nodup))
 |0,l,h=>by rw[length_eq_zero_iff.mp h];simp[fstU]
 |n+1,l,h=>by
  obtain⟨l',x,rfl⟩:∃l' x,l=l'++[x]:=⟨l.dropLast,l.getLast (λz=>by rw[z] at h;cases h),(List.dropLast_concat_getLast _).symm⟩;have hl:l'.length=n:=by rw[length_append,length_singleton] at h;lia
  obtain⟨i1,i2⟩:=eD n l' hl;have im:=iA n l' hl x;have hp:(l'++[x]).Nodup↔x∉l'/\l'.Nodup:=by rw[<- nodup_cons];exact (List.perm_append_singleton x l').nodup_iff
  rw[hp,i9,length_append,length_singleton];split
  .next hx=>
   refine⟨by lia,λz=>?_,λz=>absurd (im.mp hx) z.1⟩;exact absurd z (by lia)
  .next hx=>
   rw[length_append,length_singleton];refine⟨by lia,λz=>⟨λy=>hx (im.mpr y),i2.mp (by lia)⟩,λz=>by rw[i2.mpr z.2]⟩
end
section
variable {prog:Program}{w:World}{K:Type}[DecidableEq K]{knd:KeyKind prog w K}{A:Around}{R:Result->Shared->Prop}{h0:Heap}{d it l:Addr}{items:Array Value}{ks:List K}
theorem mv {h:Heap}{S S':K->Bool}{n n':Nat}(e:∀k,S k=S' k)(en:n=n')(hs:h.SetOf knd d S n):h.SetOf knd d S' n':=by subst en;rw[<- (funext e:S=S')];exact hs
theorem Bm (hd0:h0.get? d=none)(hi0:h0.get? it=none)(hdi:d≠it)(hl:h0.IsList l items)(hp:∀(i:Nat) (x:Value),items[i]?=some x->∃k,ks[i]?=some k/\knd.is k x=true/\x.scannable=true)(hn:items.size=ks.length)(hsz:ks.length+1 < scanBound)(hh:A.in1.handled=none) :
  ∀(k i:Nat) (s:Shared),items.size - i=k->i<=items.size->(∀b o,h0.get? b=some o->s.heap.get? b=some o)->s.heap.IsListIter it l i->s.heap.SetOf knd d (λk=>decide (k∈ks.take i)) (fstU (ks.take i)).length ->
  (∀(h':Heap) (n:Nat),(∀b o,h0.get? b=some o->h'.get? b=some o)->h'.SetOf knd d (λk=>decide (k∈ks)) (fstU ks).length->R (.ok (.ret .none)) {s with heap:=h',toks:=n}) ->
  codeAny (model prog w) A (.builtin "set.update.loop" ⟨[.ref d,.ref it],[]⟩) R s:=by
 intro k;induction k with
 |zero=>intro i s hk hi sm hit hd hR;have EY:i=items.size:=Nat.le_antisymm hi (by lia);obtain⟨o,ho,r⟩:=hl;refine codeAny_builtin F.entry_set_update_loop ?_;rw[Around.under_plainId F.plain_set_update_loop _];show wpAny _ A.in1 (pyNext (.ref it) >>= _) _ _ s;refine wpAny_bind (wpAny_pyNext_list_end hh hit ⟨o,sm _ _ ho,r⟩ (by rw[EY];simp) λh' he=>?_);rw[EY,hn,take_length] at hd;refine wpAny_pure (hR h' s.toks (λb o e=>he b o (λz=>by rw[z,hi0] at e;cases e) (sm b o e)) ?_);obtain⟨o,es,ep,t,h1,h2⟩:=hd;exact⟨o,es,ep,t,he d o hdi h1,h2⟩
 |succ k ih=>
  intro i s hk hi sm hit hd hR;have EX:i < items.size:=Nat.lt_of_sub_pos (by lia);obtain⟨ld,Fe,dl,Fb⟩:=hp i items[i] (Array.getElem?_eq_getElem EX);obtain⟨ol,Fc,rl⟩:=id hl;refine codeAny_builtin F.entry_set_update_loop ?_;rw[Around.under_plainId F.plain_set_update_loop _];show wpAny _ A.in1 (pyNext (.ref it) >>= _) _ _ s;refine wpAny_bind (wpAny_pyNext_list_item hit ⟨ol,sm _ _ Fc,rl⟩ (x:=items[i]) (Array.getElem?_eq_getElem EX) λh1 BT EW=>?_);have Fa:∀b o,h0.get? b=some o->h1.get? b=some o:=λb o e=>by rw[EW.2 b (λz=>by rw[z,hi0] at e;cases e)];exact sm b o e
  have Fh:h1.SetOf knd d (λk=>decide (k∈ks.take i)) (fstU (ks.take i)).length:=by obtain⟨o,es,ep,t,e1,e2⟩:=hd;exact⟨o,es,ep,t,by rw[EW.2 d hdi];exact e1,e2⟩
  have Fi:=(eD _ (ks.take i) rfl).1;have Ff:=iA _ (ks.take i) rfl;rw[length_take] at Fi;refine wpAny_bind (wpAny_holding ?_);unfold setAdd;refine wpAny_holding (wpAny_bind (knd.pyHash dl ?_));refine wpAny_setAddHashed_of (s:={ s with heap:=h1,toks:=_}) dl Fb Fh (by lia) λh2 Cl Fg=>?_;have EZ:∀b o,h0.get? b=some o->h2.get? b=some o:=λb o e=>by rw[Cl.2 b (λz=>by rw[z,hd0] at e;cases e)];exact Fa b o e
  have mt:h2.IsListIter it l (i+1):=by obtain⟨o,e1,e2⟩:=BT;exact⟨o,by rw[Cl.2 it (Ne.symm hdi)];exact e1,e2⟩
  have et:ks.take (i+1)=ks.take i++[ld]:=by rw[take_add_one,Fe];rfl
  refine wpAny_pure ⟨plainId_quiet F.plain_set_update_loop _,?_⟩;refine ih (i+1) _ (by lia) (by lia) EZ mt (mv (λk=>?_) ?_ Fg) (λh' n e1 e2=>hR h' n e1 e2)
  .rw[et];by_cases h1:k∈ks.take i
   .rw[decide_eq_true h1,decide_eq_true (mem_append_left _ h1)];rfl
   .by_cases h2:k=ld
    .rw[decide_eq_true h2,decide_eq_true (mem_append_right _ (mem_singleton.mpr h2)),Bool.or_true]
    .rw[decide_eq_false h1,decide_eq_false h2,decide_eq_false (λz=>by rcases mem_append.mp z with y|y;exact h1 y;exact h2 (mem_singleton.mp y))];rfl
  .rw[et,i9];by_cases h1:ld∈ks.take i
   .rw[if_pos (decide_eq_true h1),if_pos ((Ff _).mpr h1)]
   .rw[if_neg (by rw[decide_eq_false h1];decide),if_neg (λz=>h1 ((Ff _).mp z)),length_append];rfl
end
section
variable {prog:Program}{w:World}{K:Type}[DecidableEq K]{knd:KeyKind prog w K}{A:Around}{E:Value->Shared->Prop}{s:Shared}{l:Addr}{items:Array Value}{ks:List K}{Q:Value->Shared->Prop}
theorem Bn (hl:s.heap.IsList l items)(hp:∀(i:Nat) (x:Value),items[i]?=some x->∃k,ks[i]?=some k/\knd.is k x=true/\x.scannable=true)(hn:items.size=ks.length)(hsz:ks.length+1 < scanBound)(hA:A.handled=none)
  (h:∀(h':Heap) (n:Nat),(∀b o,s.heap.get? b=some o->h'.get? b=some o)->h'.SetOf knd s.heap.objs.size (λk=>decide (k∈ks)) (fstU ks).length->Q (.ref s.heap.objs.size) {s with heap:=h',toks:=n}) :
  wpAny (model prog w) A (call (.type "set") [.ref l]) Q E s:=by
 obtain⟨c,tl,BT⟩:=F.called_set.mro;have EX:=F.called_set.made;have Fb:=F.called_set.sub;have h1:=F.called_set.notType;have h2:=F.called_set.canCreate;refine wpAny_call (codeAny_of_tree (wpAny_pure ⟨Code.quiet_builtin _ (by fail "k"),codeAny_builtin F.entry_type_call ?_⟩));rw[Around.under_plain (weight_type_call_type "set" [.ref l] []) rfl];unfold Builtin.«type.__call__»;refine wpAny_ite_false (by rw[h1];rfl) ?_;refine wpAny_ite_false (by rw[h2];rfl) ?_;refine wpAny_bind (wpAny_of_eq (F.typeCall_set_1 _) ?_);refine wpAny_bind (wpAny_of_eq BT ?_);refine wpAny_ite_false rfl ?_;refine wpAny_bind (wpAny_of_eq EX ?_);refine wpAny_bind (wpAny_pure ?_);show wpAny _ _ (holding [Value.builtin "set.__new__"] (call (Value.builtin "set.__new__") [.type "set",.ref l] []) >>= _) _ _ _;refine wpAny_bind (wpAny_holding (wpAny_call (codeAny_mono (code_set_new_1 (E:=E) (Q₁:=λx s₁=>∃dl,x=.ref s.heap.objs.size/\s₁={ s with heap:=s.heap.push {cls:=.type "set",data:=.set #[] 0 (SetTable.fresh 0 0 dl)} }) (.ref l) λdl=>⟨dl,rfl,rfl⟩) λr s₁ hr=>?_)));cases r with
 |error e=>exact hr
 |ok fl=>
  cases fl with
  |next=>exact hr
  |brk=>exact hr
  |cont=>exact hr
  |ret v=>
   obtain⟨dl,rfl,rfl⟩:=hr;have ns:(s.heap.push {cls:=.type "set",data:=.set #[] 0 (SetTable.fresh 0 0 dl)}).get? s.heap.objs.size=some {cls:=.type "set",data:=.set #[] 0 (SetTable.fresh 0 0 dl)}:=Heap.get?_push_size _ rfl;have ty:({s with heap:=s.heap.push {cls:=.type "set",data:=.set #[] 0 (SetTable.fresh 0 0 dl)} }:Shared).TypeIs (.ref s.heap.objs.size) "set" := ⟨_,ns,rfl⟩;refine wpAny_bind (wpAny_isInstance ty Fb ?_);refine wpAny_ite_false rfl ?_;refine wpAny_bind (wpAny_holding ?_);unfold callSpecial?;refine wpAny_bind (wpAny_specialOf ty F.called_set.init.lookup ?_);refine wpAny_holding (wpAny_bind (wpAny_of_eq (F.called_set.init.bind _) ?_));refine wpAny_bind (wpAny_call (codeAny_mono (R:=wants (λr s₂=>r=Value.none/\Q (.ref s.heap.objs.size) s₂) E) (codeAny_call_builtin F.called_set.init.plain F.entry_set_init (check_set_init_1 ty ?_)) λr₂ s₂ ld=>?_));rotate_left
   .cases r₂ with
    |error e=>exact ld
    |ok fl=>
     cases fl with
     |next=>exact ld
     |brk=>exact ld
     |cont=>exact ld
     |ret v=>obtain⟨rfl,hq⟩:=ld;exact wpAny_pure (wpAny_ite_false rfl (wpAny_pure hq))
   have mt:∀b o,s.heap.get? b=some o->(s.heap.push {cls:=.type "set",data:=.set #[] 0 (SetTable.fresh 0 0 dl)}).get? b=some o:=λb o e=>Heap.get?_push_of_some _ e;obtain⟨ol,EW,rl⟩:=id hl;have EZ:(s.heap.push {cls:=.type "set",data:=.set #[] 0 (SetTable.fresh 0 0 dl)}).IsList l items:=⟨ol,mt _ _ EW,rl⟩;have Fa:({s with heap:=s.heap.push {cls:=.type "set",data:=.set #[] 0 (SetTable.fresh 0 0 dl)} }:Shared).TypeIs (.ref l) "list" := ⟨ol,mt _ _ EW,rl.1⟩;have hsub1:=F.sub_list_set;have hsub2:=F.sub_list_frozenset;generalize hG:s.heap.push {cls:=.type "set",data:=.set #[] 0 (SetTable.fresh 0 0 dl)}=G at ns ty mt EZ Fa ⊢;unfold Builtin.«set.__init__»
   wp_walk using wpAny_pyIter_list EZ
   have Cl:∀b,s.heap.objs.size<=b->s.heap.get? b=none:=λb hb=>by
    cases e:s.heap.get? b with
    |none=>rfl
    |some o=>exact absurd (Heap.lt_size e) (Nat.not_lt.mpr hb)
   have EY:s.heap.objs.size < G.objs.size:=Heap.lt_size ns;have Fc:(G.push {cls:=.type "list_iterator",data:=.fields #[.ref l,.int 0 0]}).SetOf knd s.heap.objs.size (λk=>decide (k∈ks.take 0)) (fstU (ks.take 0)).length:=by
    letI:BEq K:=instBEqOfDecidableEq
    refine mv (S:=λ_=>false) (λk=>?_) rfl ((setObjOf_fresh (knd:=knd) dl).setOf (Heap.get?_push_of_some _ ns) (by decide));rw[take_zero,decide_eq_false not_mem_nil]
   exact @Bm prog w K _ knd A.in1.in1 _ s.heap s.heap.objs.size G.objs.size l items ks (Cl _ (Nat.le_refl _)) (Cl _ (Nat.le_of_lt EY)) (Nat.ne_of_lt EY) hl hp hn hsz hA items.size 0
    { s with heap:=G.push {cls:=.type "list_iterator",data:=.fields #[.ref l,.int 0 0]} } rfl (Nat.zero_le _) (λb o e=>Heap.get?_push_of_some _ (mt b o e)) ⟨_,Heap.get?_push_size _ rfl,rfl,rfl⟩ Fc (λh' n e1 e2=>wpAny_pure (wpAny_pure ⟨rfl,h h' n e1 e2⟩))
end
end PySem
namespace L2
open PySem PySem.Spec PyProof.Rows
section
variable {X:Cx}
theorem mw:∀{ss:List Str}{its:List Value},Vals (ss.map V.str) its->its.length=ss.length/\∀(i:Nat) (x:Value),its[i]?=some x->∃z t,ss[i]?=some z/\x=.str z t
 |[],_,h=>by cases h;exact⟨rfl,λi x h=>by simp at h⟩
 |z::ss,_,h=>by
  cases h with
  |cons r rs=>
   obtain⟨h1,h2⟩:=mw rs;obtain⟨t,rfl⟩:=r;refine⟨by simp[h1],λi x hx=>?_⟩;cases i with
   |zero=>cases hx;exact⟨z,t,rfl,rfl⟩
   |succ i=>exact h2 i x (by simpa using hx)
def tLenSet (ta:TA):TE:=λZ H Q=>ta Z H λvs H1=>∃(l:Addr) (ss:List Str),vs=[.ref l]/\H1 l=some (.lst (ss.map V.str))/\ss.length<=1000/\Q (.int ((fstU ss).length:Nat)) H1
theorem Bo {a:Expr}{ta:TA}{p p' pos pos':Pos}(hc:X.calm=true)(hg:Gl X "set")(hm:X.mg "set"=none)(hl:Gl X "len")(hlm:X.mg "len"=none)(hb:bootBuiltins "len"=some (.builtin "len"))(ha:PA X [a] ta)
  (hs:starEach [a] X.env=[(false,eval a X.env)]:=by rfl)
  (hs':starEach [.Call (.Name "set" p) [a] [] pos] X.env=[(false,eval (.Call (.Name "set" p) [a] [] pos) X.env)]:=by rfl) :
  PE X (.Call (.Name "len" p') [.Call (.Name "set" p) [a] [] pos] [] pos') (tLenSet ta):=by
 intro dl s Z H Q I h;refine wpAny_Call_Name_kw (az I hl hlm hb (PyProof.Rows.callWith_builtin1 ?_ hs' rfl) (by decide) (by decide));rw[hs'];refine Calls.spliced_cons ?_;refine wpAny_Call_Name_kw (az I hg hm boot_set (PyProof.Rows.callWith_type1 (thn (ha pos dl s Z H _ I h) λus s1 W'=>?_) hs rfl) (by decide) (by decide));obtain⟨vs,H1,I1,r1,q1⟩:=W';obtain⟨l,ss,e,BT,hz,q⟩:=q1;subst e;obtain⟨u,rfl,r⟩:=vals1 r1;cases r;obtain⟨z,mt,n,rv,e⟩:=I1.hok l _ BT;obtain⟨v1,v2⟩:=mw rv;have hfn:=(eD _ ss rfl).1;refine Bn (knd:=PySem.strKind X.prog X.w) (ks:=ss) (items:=mt.toArray) ⟨_,e,rfl,_,rfl⟩ (λi x hx=>?_) (by rw[size_toArray];exact v1) (by show ss.length+1 < 4096;lia) (I1.ok.hd hc) λh' t' sm ld=>?_
 .obtain⟨y,t,h1,rfl⟩:=v2 i x (by simpa using hx);exact⟨y,h1,PySem.strKind_is _ _ _ _,rfl⟩
 have I2:Inv X dl Z H1 {s1 with heap:=h',toks:=t' }:=I1.kept sm;refine Calls.spliced_nil ?_;obtain⟨o,es,ep,tt,g1,g2,g3,g4,g5,g6,g7,g8⟩:=ld;refine call_len_set (s:={ s1 with heap:=h',toks:=t' }) g1 g2 g3 g7 (by rw[g8];lia) ?_;rw[g8];refine⟨.int _,H1,I1.kept (t':=t'+1+1) sm,⟨_,rfl⟩,q⟩
end
theorem Bp {ta:TA}{Z:St}{H:Hp}{Q:VK}:(tLenSet ta Z H Q)=(ta Z H λvs H1=>∃(l:Addr) (ss:List Str),vs=[.ref l]/\H1 l=some (.lst (ss.map V.str))/\ss.length<=1000/\Q (.int ((fstU ss).length:Nat)) H1):=rfl
end L2
namespace L2
open PySem PyProof.Rows PySem.Spec
theorem Room.units1 {k:Nat}{A:Around}(r:Room k A):A.units+1 < cLine:=by have:=r.un;lia
section
variable {td ty tv:TE}{Z:St}{H:Hp}{Q:VK}{D:Ends}
theorem Bq:(tDGet td ty Z H Q)=(td Z H λx H1=>ty Z H1 λy H2=>∃a v,x=.ref a/\DGet H2 a y (some v)/\Q v H2):=rfl
end
end L2
namespace L2
open PySem
section
variable {K:W.Frag}{p:Addr}{fv:St}{tt:TT}{te:TE}{Q:VK}{H1:Hp}
theorem Br {a:Addr}{xs:List V}(t:Nat->Bool)(g:Nat->V)(hxs:SqL K H1 a xs)(hlen:xs.length<=sizeLine)(hp:H1 p=none)
  (ht:∀(i:Nat) (x:V),xs[i]?=some x->∀(H':Hp) (R:Bool->Hp->Prop),Same H1 H'->(∀H'',Same H' H''->R (t i) H'')->tt (some x::fv) H' R)
  (he:∀(i:Nat) (x:V),xs[i]?=some x->t i=true->∀(H':Hp) (T:VK),Same H1 H'->(∀H'',Same H' H''->T (g i) H'')->te (some x::fv) H' T)
  (hQ:∀H',Same H1 H'->H' p=some (.lst (((List.range xs.length).filter t).map g))->Q (.ref p) H'):CompI (Itl K a) p fv tt te Q H1:=by
 refine⟨λi m ys H2=>m=xs.length - i/\i<=xs.length/\ys=((List.range i).filter t).map g/\H2 p=some (.lst ys)/\Same H1 H2,⟨xs.length,by simp,Nat.zero_le _,by simp,aC,λb o e=>by rw[aE (aJ e hp)];exact e⟩,?_⟩;rintro i m ys H2 ⟨rfl,hi,rfl,dl,sm⟩;refine⟨dl,?_⟩;have q:=sm.seq hxs;by_cases ld:i < xs.length
 .refine .inr ⟨⟨xs,xs[i],q,by simp[ld]⟩,?_,λx H3 y=>?_⟩
  .rw[length_map];have:=length_filter_le t (List.range i);rw[length_range] at this;lia
  .obtain⟨rfl,y⟩:=y;have hc:=y xs q;refine ht i x hc _ _ sm λH4 s4=>?_;by_cases hf:t i=true
   .rw[if_pos hf];refine he i x hc hf _ _ (sm.trans s4) λH5 s5=>⟨(s4.trans s5) _ _ dl,xs.length - (i+1),by lia,rfl,ld,?_,aC,λb o e=>?_⟩
    .rw[range_succ,filter_append,map_append];simp[hf]
    .rw[aE (aJ e hp)];exact (s4.trans s5) _ _ (sm _ _ e)
   .rw[if_neg hf];refine⟨xs.length - (i+1),by lia,rfl,ld,?_,s4 _ _ dl,sm.trans s4⟩;rw[range_succ,filter_append,map_append];simp[hf]
 .have e:i=xs.length:=by lia
  subst e;exact .inl ⟨⟨xs,q,Nat.le_refl _⟩,hQ H2 sm dl⟩
end
end L2
namespace Wm
open PySem L2
noncomputable abbrev Rw:=Tq×(List Pc×Bool)
noncomputable def mrR (a b:Rw):Bool:=moreM a.2.1 b.2.1
theorem my {α:Type}{mr:α->α->Bool}:∀(L:List α) (b e:α),mostM mr b (L++[e])=if mr e (mostM mr b L)=true then e else mostM mr b L
 |[],b,e=>rfl
 |x::L,b,e=>by show mostM mr _ (L++[e])=_;rw[my L];rfl
theorem iB {α:Type}{mr:α->α->Bool}:∀(L:List α) (b:α),mostM mr b L∈b::L
 |[],b=>mem_singleton.mpr rfl
 |x::L,b=>by
  have:=iB (mr:=mr) L (if mr x b=true then x else b);show mostM mr (if mr x b=true then x else b) L∈_;rcases mem_cons.mp this with h|h
  .rw[h];split <;> simp
  .exact mem_cons_of_mem _ (mem_cons_of_mem _ h)
theorem mz {T:List Rw}{p:Rw->Bool}{b:Rw}{L:List Rw}(h:T.filter p=b::L) :
  ∃pr po,T=pr++mostM mrR b L::po/\p (mostM mrR b L)=true/\(∀t∈pr,p t=true->mrR (mostM mrR b L) t=true/\mrR t (mostM mrR b L)=false)/\∀t∈po,p t=true->mrR t (mostM mrR b L)=false:=
 B5 (mr:=mrR) (λ_ _ _=>gy) (λ_ _ _=>mW) (λ_ _=>B4) h
def RwAt (H:Hp)(r:Rw)(v:V):Prop:=∃a p:Addr,v=.ref a/\H a=some (.tup [tV r.1,.ref p])/\PtAt H r.2.1 r.2.2 p
theorem RwAt.mono {H H':Hp}{r:Rw}{v:V}(s:SameT H H'):RwAt H r v->RwAt H' r v:=λ⟨a,p,e,h1,h2⟩=>⟨a,p,e,s _ _ h1,h2.mono s⟩
inductive TbV (H:Hp):List Rw->List V->Prop
 |nil:TbV H [] []
 |cons {r:Rw}{v:V}{rs:List Rw}{vs:List V}:RwAt H r v->TbV H rs vs->TbV H (r::rs) (v::vs)
theorem TbV.mono {H H':Hp}(s:SameT H H'){rs:List Rw}{vs:List V}(hh:TbV H rs vs):TbV H' rs vs:=by
 induction hh with
 |nil=>exact .nil
 |cons h t ih=>exact .cons (h.mono s) ih
theorem TbV.length {H:Hp}{rs:List Rw}{vs:List V}(hh:TbV H rs vs):vs.length=rs.length:=by
 induction hh with
 |nil=>exact rfl
 |cons h t ih=>rw[length_cons,length_cons,ih]
theorem TbV.get {H:Hp}{rs:List Rw}{vs:List V}(hh:TbV H rs vs){i:Nat}{v:V}(e:vs[i]?=some v):∃r,rs[i]?=some r/\RwAt H r v:=by
 induction hh generalizing i with
 |nil=>cases e
 |cons h _ ih=>
  cases i with
  |zero=>cases e;exact⟨_,rfl,h⟩
  |succ i=>exact ih e
theorem TbV.append {H:Hp}{ss:List Rw}{ws:List V}(h2:TbV H ss ws){rs:List Rw}{vs:List V}(hh:TbV H rs vs):TbV H (rs++ss) (vs++ws):=by
 induction hh with
 |nil=>exact h2
 |cons h t ih=>exact .cons h ih
theorem TbV.drop {H:Hp}{rs:List Rw}{vs:List V}(h:TbV H rs vs)(n:Nat):TbV H (rs.drop n) (vs.drop n):=by
 induction h generalizing n with
 |nil=>rw[drop_nil,drop_nil];exact .nil
 |cons h t ih=>cases n with
  |zero=>exact .cons h t
  |succ n=>exact ih n
theorem TbV.pick {H:Hp}{f:Rw->Bool}:∀{rs:List Rw}{vs:List V},TbV H rs vs->TbV H (rs.filter f) (((List.range vs.length).filter λi=>match rs[i]? with|some r=>f r|none=>false).map λi=>vs[i]?.getD .non):=by
 intro rs vs h;induction h with
 |nil=>exact .nil
 |@cons r v rs vs h t ih=>
  have e:(List.range (v::vs).length).filter (λi=>match (r::rs)[i]? with|some r=>f r|none=>false)=(if f r=true then [0] else [])++((List.range vs.length).filter λi=>match rs[i]? with|some r=>f r|none=>false).map (·+1):=by rw[length_cons,range_succ_eq_map,filter_cons,filter_map];simp only[List.getElem?_cons_zero];split <;> rename_i hh <;> simp[hh,Function.comp_def]
  rw[e,map_append,map_map,filter_cons];have tl:(((List.range vs.length).filter λi=>match rs[i]? with|some r=>f r|none=>false).map ((λi=>(v::vs)[i]?.getD .non) ∘ (·+1)))=(((List.range vs.length).filter λi=>match rs[i]? with|some r=>f r|none=>false).map λi=>vs[i]?.getD .non):=by apply map_congr_left;intro i _;simp
  rw[tl];split
  .exact .cons h ih
  .exact ih
end Wm
namespace PySem
theorem Bs:typeLookup (.type "list") (ofString "keys")=pure none:=by rw[typeLookup_type,builtinLookup_eq_fast];kernel_rfl
theorem Bt {prog:Program}{w:World}{A:Around}{E:Value->Shared->Prop}{s:Shared}{a:Addr}{xs:Array Value}{k:Nat}{sl:Array (Option Value)}{Q:Option Value->Shared->Prop}
  (ha:s.heap.get? a=some ⟨.type "list",none,.seq xs k,sl⟩) (hA:A.handled=none)
  (h:∀(h':Heap) (n:Nat) (e:Addr),Heap.NewExcOf s.heap h' e "AttributeError" -> Q none {s with heap:=h',toks:=n}) :
  wpAny (model prog w) A (getAttr? (.ref a) (ofString "keys")) Q E s:=by
 obtain⟨hp,gg,dd,tk,os⟩:=s;have ty:∀n,(⟨hp,gg,dd,n,os⟩:Shared).TypeIs (.ref a) "list" := λ_=>⟨_,ha,rfl⟩;have g1:=sub_AttributeError;have g2:=F.slot_list_getattribute.lookup;have g3:=F.slot_list_getattribute.bind (.ref a);have g4:=am_list_getattr_none;unfold getAttr?;unfold getAttrBy? getAttrBy;repeat (any_goals (first|assumption|exact ty _|((with_reducible show wpAny _ _ (call (Value.builtin "list.__getattribute__") _ _) _ _ _);refine call_meets F.slot_list_getattribute (ty _) am_entry_list_getattribute (F.args_list_getattribute_2 _ _) (meets_getattribute_miss_list a xs k sl _ _ Bs (by decide) (by show 4+100<=sizeLine;decide)) ⟨ha,hA,λh' n e he=>?_⟩)|wp_step))
 obtain⟨t',u',ht⟩:=he.there;show wpAny _ _ (getattributeRaised _ _ _ _ _ _ _) _ _ _;unfold getattributeRaised;repeat (any_goals first|assumption|wp_step)
 exact h _ _ _ he.of
theorem eG:plainId "dict.update.loop"=true:=by fail "k"
theorem nA:entryFor table "dict.update.loop"=some Builtin.«dict.update.loop»:=entryFor_of_tree (by kernel_rfl)
section
variable {prog:Program}{w:World}{K:Type}[DecidableEq K]{knd:KeyKind prog w K}{A:Around}{R:Result->Shared->Prop}{h0:Heap}{d it l:Addr}{items:Array Value}{ps:List (K×Value)}
def PrsAt (knd:KeyKind prog w K)(h:Heap)(items:Array Value)(ps:List (K×Value)):Prop:=items.size=ps.length/\∀(i:Nat) (x:Value),items[i]?=some x->∃(a:Addr) (o:Obj) (n:Nat) (kv:K×Value) (key:Value),x=.ref a/\ps[i]?=some kv/\knd.is kv.1 key=true/\h.get? a=some o/\o.cls=.type "tuple"/\o.data=.seq #[key,kv.2] n
theorem Bu (hd0:h0.get? d=none)(hi0:h0.get? it=none)(hdi:d≠it)(hl:h0.IsList l items)(hp:PrsAt knd h0 items ps)(hsz:ps.length<=sizeLine)(hh:A.in1.handled=none) :
  ∀(k i:Nat) (s:Shared),items.size - i=k->i<=items.size->(∀b o,h0.get? b=some o->s.heap.get? b=some o)->s.heap.IsListIter it l i->s.heap.DictOf knd d (merged [] (ps.take i)) ->
  (∀(h':Heap) (n:Nat),(∀b o,h0.get? b=some o->h'.get? b=some o)->h'.DictOf knd d (merged [] ps)->R (.ok (.ret .none)) {s with heap:=h',toks:=n}) ->
  codeAny (model prog w) A (.builtin "dict.update.loop" ⟨[.ref d,.ref it,rawInt i,.none],[]⟩) R s:=by
 intro k;induction k with
 |zero=>intro i s hk hi sm hit hd hR;have EZ:i=items.size:=Nat.le_antisymm hi (by lia);obtain⟨o,ho,r⟩:=hl;refine codeAny_builtin nA ?_;rw[Around.under_plainId eG _];show wpAny _ A.in1 (pyNext (.ref it) >>= _) _ _ s;refine wpAny_bind (wpAny_pyNext_list_end hh hit ⟨o,sm _ _ ho,r⟩ (by rw[EZ];simp) λh' he=>?_);show wpAny _ A.in1 (Builtin.Dict.addKeywords d [] >>= _) _ _ _;refine wpAny_bind (wpAny_pure (wpAny_pure ?_));rw[EZ,hp.1,take_length] at hd;refine hR h' s.toks (λb o e=>he b o (λz=>by rw[z,hi0] at e;cases e) (sm b o e)) ?_;obtain⟨o,es,ep,h1,h2⟩:=hd;exact⟨o,es,ep,he d o hdi h1,h2⟩
 |succ k ih=>
  intro i s hk hi sm hit hd hR;have EY:i < items.size:=Nat.lt_of_sub_pos (by lia);obtain⟨a,o,n,kv,Cl,hx,Fc,ld,ha,hc,Fe⟩:=hp.2 i items[i] (Array.getElem?_eq_getElem EY);obtain⟨ol,Fb,rl⟩:=id hl;refine codeAny_builtin nA ?_;rw[Around.under_plainId eG _];show wpAny _ A.in1 (pyNext (.ref it) >>= _) _ _ s;refine wpAny_bind (wpAny_pyNext_list_item hit ⟨ol,sm _ _ Fb,rl⟩ (x:=.ref a) (by rw[Array.getElem?_eq_getElem EY,hx]) λh1 BT EX=>?_);have dl:∀b o,h0.get? b=some o->h1.get? b=some o:=λb o e=>by rw[EX.2 b (λz=>by rw[z,hi0] at e;cases e)];exact sm b o e
  have Fg:h1.DictOf knd d (merged [] (ps.take i)):=by obtain⟨o,es,ep,e1,e2⟩:=hd;exact⟨o,es,ep,by rw[EX.2 d hdi];exact e1,e2⟩
  have Fh:=merged_length_le ([]:List (K×Value)) (ps.take i);rw[length_take,length_nil] at Fh;refine wpAny_bind (wpAny_holding (wpAny_bind (wpAny_tryCatch ?_)));unfold Builtin.Dict.pairItems;refine wpAny_bind (wpAny_typeOf (T := "tuple") ⟨o,dl _ _ ha,hc⟩ ?_);rw[if_pos (by decide)];refine wpAny_bind (wpAny_seqItems (dl _ _ ha) Fe (wpAny_pure ?_));show wpAny _ A.in1 (holding [Cl,kv.2] (dictSet d Cl kv.2)) _ _ _;refine wpAny_holding (wpAny_dictSet_pairs ld Fg (λh2 Ff EW=>?_) (by lia));have Fa:∀b o,h0.get? b=some o->h2.get? b=some o:=λb o e=>by rw[EW.2 b (λz=>by rw[z,hd0] at e;cases e)];exact dl b o e
  have mt:h2.IsListIter it l (i+1):=by obtain⟨o,e1,e2⟩:=BT;exact⟨o,by rw[EW.2 it (Ne.symm hdi)];exact e1,e2⟩
  refine wpAny_pure ⟨plainId_quiet eG _,?_⟩;have:=ih (i+1) {s with heap:=h2,toks:=s.toks+1} (by lia) (by lia) Fa mt (by rw[merged_take_succ _ _ _ _ Fc];exact Ff) (λh' n e1 e2=>hR h' n e1 e2);exact this
end
section
variable {prog:Program}{w:World}{K:Type}[DecidableEq K]{knd:KeyKind prog w K}{A:Around}{E:Value->Shared->Prop}{s:Shared}{l:Addr}{items:Array Value}{ps:List (K×Value)}{c:Nat}{sl:Array (Option Value)}{Q:Value->Shared->Prop}
theorem Bv (hl:s.heap.get? l=some ⟨.type "list",none,.seq items c,sl⟩)(hp:PrsAt knd s.heap items ps)(hsz:ps.length<=sizeLine)(hA:A.handled=none)
  (h:∀(h':Heap) (n:Nat),(∀b o,s.heap.get? b=some o->h'.get? b=some o)->h'.DictOf knd s.heap.objs.size (merged [] ps)->Q (.ref s.heap.objs.size) {s with heap:=h',toks:=n}) :
  wpAny (model prog w) A (call (.type "dict") [.ref l]) Q E s:=by
 refine callType_codes (Q₁:=λx s₁=>x=.ref s.heap.objs.size/\s₁={ s with heap:=s.heap.push {cls:=.type "dict",data:=.dict #[]} }) F.kt_called_dict (F.kt_typeCall_dict_1 _) F.entry_dict_init (kt_code_dict_new _ ⟨rfl,rfl⟩) ?_;rintro x s₁ ⟨rfl,rfl⟩;have nw:(s.heap.push {cls:=.type "dict",data:=.dict #[]}).DictOf knd s.heap.objs.size []:=Heap.DictOf.new s.heap;have dl:∀b o,s.heap.get? b=some o->(s.heap.push {cls:=.type "dict",data:=.dict #[]}).get? b=some o:=λb o e=>Heap.get?_push_of_some _ e;refine⟨nw.typeIs,F.args_dict_init_2 _ _,?_⟩;unfold Builtin.«dict.__init__»;refine wpAny_bind ?_;unfold Builtin.Dict.selfAndRest;skip;refine wpAny_bind (wpAny_notOrdered_dict nw.typeIs ?_);show wpAny _ _ (pure (s.heap.objs.size,[Value.ref l])) _ _ _;refine wpAny_pure ?_;show wpAny _ _ (Builtin.Dict.updateFrom "dict.__init__" s.heap.objs.size (.ref l) [] .none) _ _ _;unfold Builtin.Dict.updateFrom;refine wpAny_bind (wpAny_typeOf (T := "list") ⟨_,dl _ _ hl,rfl⟩ ?_);rw[if_pos (by decide)];refine wpAny_bind (Bt (dl _ _ hl) hA λh1 n1 e1 Cl=>?_);show wpAny _ _ (rule _ >>= _) _ _ _;refine wpAny_bind (wpAny_rule (wpAny_bind ?_));have ld:∀b o,s.heap.get? b=some o->h1.get? b=some o:=λb o e=>Cl.keeps b o (dl b o e);obtain⟨o,es,ep,g1,g2⟩:=nw;have EW:=Cl.keeps _ _ g1;have BT:s.heap.objs.size < h1.objs.size:=Heap.lt_size EW;have mt:∀b,s.heap.objs.size<=b->s.heap.get? b=none:=λb hb=>by
  cases e:s.heap.get? b with
  |none=>rfl
  |some o=>exact absurd (Heap.lt_size e) (Nat.not_lt.mpr hb)
 refine wpAny_pyIter_list (items:=items) ⟨_,ld _ _ hl,rfl,c,rfl⟩ ?_;refine wpAny_pure ⟨plainId_quiet eG _,?_⟩;have:=@Bu prog w K _ knd A.in1 (wants (λr s₂=>r=Value.none/\Q (Value.ref s.heap.objs.size) s₂) E) s.heap s.heap.objs.size h1.objs.size l items ps (mt _ (Nat.le_refl _)) (mt _ (Nat.le_of_lt BT)) (Nat.ne_of_lt BT) ⟨_,hl,rfl,c,rfl⟩ hp hsz hA items.size 0
  { s with heap:=h1.push {cls:=.type "list_iterator",data:=.fields #[.ref l,.int 0 0]},toks:=n1} rfl (Nat.zero_le _) (λb o e=>Heap.get?_push_of_some _ (ld b o e)) ⟨_,Heap.get?_push_size _ rfl,rfl,rfl⟩ ⟨o,es,ep,Heap.get?_push_of_some _ EW,g2⟩ (λh' n e1 e2=>⟨rfl,h h' n e1 e2⟩)
 exact this
end
end PySem
namespace L2
open PySem PySem.Spec PyProof.Rows
section
variable {X:Cx}{pins:List (Addr×Obj)}{Z:St}{H:Hp}{s:Shared}
theorem Bw (I:Inv X pins Z H s):∀{us:List V}{its:List Value}{kvs:List (Key×V)},Vals us its->us.length=kvs.length->(∀(i:Nat) (u:V),us[i]?=some u->∃(a:Addr) (kv:Key×V),u=.ref a/\kvs[i]?=some kv/\H a=some (.tup [kV kv.1,kv.2])) ->
  ∃ps:List (Key×Value),KV kvs ps/\its.length=ps.length/\∀(i:Nat) (x:Value),its[i]?=some x->∃(a:Addr) (o:Obj) (n:Nat) (kv:Key×Value) (key:Value),x=.ref a/\ps[i]?=some kv/\(mixKind X.prog X.w).is kv.1 key=true/\s.heap.get? a=some o/\o.cls=.type "tuple"/\o.data=.seq #[key,kv.2] n:=by
 intro us its kvs r;induction r generalizing kvs with
 |nil=>
  intro hl hp;cases kvs with
  |nil=>exact⟨[],.nil,rfl,λi x h=>by simp at h⟩
  |cons a b=>simp at hl
 |cons r rs ih=>
  intro hl hp;cases kvs with
  |nil=>simp at hl
  |cons kv kvs=>
   obtain⟨a,ld,e,hk,ha⟩:=hp 0 _ rfl;subst e;cases hk;cases r;obtain⟨z,dl,rv,o,g1,g2,n,g3⟩:=I.hok a _ ha;cases rv with
   |cons r1 rv=>
    cases rv with
    |cons r2 rv=>
     cases rv;obtain⟨ps,h1,h2,h3⟩:=ih (by simpa using hl) λi u hu=>hp (i+1) u (by simpa using hu);refine⟨(kv.1,_)::ps,.cons ⟨rfl,r2⟩ h1,by simp[h2],λi x hx=>?_⟩;cases i with
     |zero=>cases hx;exact⟨a,o,n,_,_,rfl,rfl,i7 r1,g1,g2,g3⟩
     |succ i=>exact h3 i x (by simpa using hx)
def rDictL:List V->Hp->VK->Prop:=λxs H Q=>∃(l:Addr) (us:List V) (kvs:List (Key×V)),xs=[.ref l]/\H l=some (.lst us)/\us.length=kvs.length/\kvs.length<=1000/\
 (∀(i:Nat) (u:V),us[i]?=some u->∃(a:Addr) (kv:Key×V),u=.ref a/\kvs[i]?=some kv/\H a=some (.tup [kV kv.1,kv.2]))/\∀p,H p=none->Q (.ref p) (upd H p (.dK (mergeK [] kvs)))
theorem Bx (hc:X.calm=true):CallR X (.type "dict") rDictL:=by intro mt s Z H xs us Q I rv h;obtain⟨l,vs,ld,rfl,hl,dl,hz,hp,q⟩:=h;obtain⟨u,rfl,r1⟩:=vals1 rv;cases r1;obtain⟨z,Cl,n,r,e⟩:=I.hok l _ hl;obtain⟨ps,k1,k2,k3⟩:=Bw I r dl hp;have BT:=mq ld [];have kl:=k1.length;refine Bv (knd:=mixKind X.prog X.w) (ps:=ps) e ⟨by rw[size_toArray];exact k2,λi x hx=>k3 i x (by simpa using hx)⟩ (by rw[<- kl];exact Nat.le_trans hz (by decide)) (I.ok.hd hc) λh' t' sm dd=>?_;have hf:=I.hok.fresh (Nat.le_refl s.heap.objs.size);exact⟨.ref s.heap.objs.size,_,I.laid (a:=s.heap.objs.size) (o:=.dK (mergeK [] ld)) (t':=t') sm (Nat.le_refl _) (Bj (by rw[length_nil] at BT;exact Nat.le_trans BT (Nat.le_trans (by lia) (show 1000<=sizeLine by decide))) (beq_eq_false_iff_ne.mpr (Ne.symm (Nat.ne_of_lt I.big))) (k1.merge .nil) dd),rfl,q _ hf⟩
end
theorem By:bootBuiltins "dict"=some (.type "dict"):=by fail "k"
theorem nB:∀(more acc:List (Key×V)) (k:Key),k∉more.map (·.1)->valV (mergeK acc more) k=valV acc k
 |[],acc,k,_=>rfl
 |p::r,acc,k,h=>by have h1:=nB r (putK acc p.1 p.2) k λz=>h (mem_cons_of_mem _ z);refine (show valV (mergeK (putK acc p.1 p.2) r) k=valV acc k from ?_);rw[h1,md,if_neg λz=>h (by rw[z];exact mem_cons_self ..)]
theorem nD:∀(more acc:List (Key×V)) (k:Key) (v:V),(more.map (·.1)).Nodup->(k,v)∈more->valV (mergeK acc more) k=some v
 |[],acc,k,v,_,h=>by cases h
 |p::r,acc,k,v,hn,h=>by
  rw[map_cons] at hn;rw[nodup_cons] at hn;refine (show valV (mergeK (putK acc p.1 p.2) r) k=some v from ?_);rcases mem_cons.mp h with z|z
  .subst z;rw[nB r _ _ hn.1,md,if_pos rfl]
  .exact nD r _ k v hn.2 z
end L2
namespace Wm
open PySem L2
def GvOk (c:Pc)(x:Vl):Prop:=match c with
 |.part h _ t=>∃s:Tq,x=.txt s/\s≠[]/\(∀z∈s,isSg z=true)/\s.length<=400/\isDot (h++s++t)=false
 |.num _=>∃n:Int,x=.int n/\0<=n/\n < 10 ^ 60
 |.word _=>∃s:Tq,x=.txt s/\s.all isSma=true/\1<=s.length/\s.length<=60
 |.gap _=>∃s:Tq,x=.txt s/\SgT s/\s.length<=400/\isDot s=false
 |.rest _=>∃ls:List Tq,x=.lst ls/\ls≠[]/\ls.length<=50/\∀s∈ls,SgT s/\s.length<=400/\isDot s=false
 |.step _=>False
inductive GvA:List Pc->List (Tq×Vl)->Prop
 |nil:GvA [] []
 |step {w:Tq}{cs:List Pc}{bs:List (Tq×Vl)}:GvA cs bs->GvA (.step w::cs) bs
 |gap {c:Pc}{x:Vl}{cs:List Pc}{bs:List (Tq×Vl)}:c.isStep=false->GvOk c x->GvA cs bs->GvA (c::cs) ((c.name,x)::bs)
noncomputable def stM (c:Pc)(x:Vl):List Tq:=match x with
 |.txt s=>[c.head++s++c.tail]
 |.int n=>[dg n]
 |.lst ls=>ls
noncomputable def stpsM:List Pc->List (Tq×Vl)->List Tq
 |[],_=>[]
 |.step w::cs,bs=>w::stpsM cs bs
 |c::cs,b::bs=>stM c b.2++stpsM cs bs
 |_::_,[]=>[]
theorem bO {c:Pc}{cs:List Pc}{b:Tq×Vl}{bs:List (Tq×Vl)}(h:c.isStep=false):stpsM (c::cs) (b::bs)=stM c b.2++stpsM cs bs:=by
 cases c with
 |step w=>cases h
 |_=>rfl
theorem Bz (h t s:Tq):amid h t (h++s++t)=s:=by
 unfold amid;rw[append_assoc,drop_left];have:(h++(s++t)).length - t.length - h.length=s.length:=by simp only[length_append];lia
 rw[this,take_left]
theorem BA (n:Nat):valD ((Nat.toDigits 10 n).map Char.toNat)=n:=by
 induction n using Nat.strongRecOn with
 |ind n ih=>
  by_cases h:n < 10
  .rw[Nat.toDigits_of_lt_base (by lia)];have:∀d,d < 10->valD ([Nat.digitChar d].map Char.toNat)=d:=by decide
   exact this n h
  .rw[Nat.toDigits_of_base_le (by decide) (by lia),map_append];show valD (_++[(Nat.digitChar (n % 10)).toNat])=n;have:∀d,d < 10->(Nat.digitChar d).toNat - 48=d:=by decide
   rw[bb,ih (n / 10) (by lia),this (n % 10) (Nat.mod_lt _ (by decide))];lia
theorem BB (n:Nat):dg (n:Int)=(Nat.toDigits 10 n).map Char.toNat:=by unfold dg;rw[PySem.W.KIN.signs_num]
theorem nE {s:Tq}(h:∀c∈s,c≠46):isDot s=false:=by
 cases hd:isDot s with
 |false=>rfl
 |true=>
  exfalso;cases s with
  |nil=>exact absurd hd (by decide)
  |cons c r=>have hc:=h c (mem_cons_self ..);unfold isDot at hd;simp[sStay,sUp] at hd;lia
theorem nF {c:Pc}{x:Vl}(ok:PcOk c)(hs:c.isStep=false)(hr:c.isRest=false)(h:GvOk c x):∃s,stM c x=[s]/\fitsM c s=true/\(∀r,bvM c (s::r)=x)/\SgT s/\s.length<=600:=by
 cases c with
 |step w=>cases hs
 |rest n=>cases hr
 |part a n t=>
  obtain⟨s,rfl,h1,h2,h3,h4⟩:=h;obtain⟨o1,o2,o3,o4,_⟩:=ok;refine⟨a++s++t,rfl,?_,λr=>?_,⟨by simp[h1],λz hz=>?_⟩,by simp only[length_append];lia⟩
  .show (!isDot (a++s++t) && partB a t (a++s++t))=true;rw[h4,AT a t s (length_pos_iff.mpr h1)];rfl
  .show Vl.txt (amid a t (a++s++t))=_;rw[Bz]
  .rcases mem_append.mp hz with y|y
   .rcases mem_append.mp y with y|y
    .exact o3 z y
    .exact h2 z y
   .exact o4 z y
 |num nm=>
  obtain⟨n,rfl,h0,h1⟩:=h;obtain⟨k,rfl⟩:=Int.eq_ofNat_of_zero_le h0;have hn:numB (dg (k:Int))=true:=B8 (by lia);have hf:=dU (i:=(k:Int)) h0;have nd:isDot (dg (k:Int))=false:=nE λc hc z=>by have:=hf c hc;lia
  have ht:fitsM (.num nm) (dg (k:Int))=true:=by show (!isDot (dg (k:Int)) && numB (dg (k:Int)))=true;rw[hn,nd];rfl
  obtain⟨b1,b2,b3⟩:=gZ ht;refine⟨dg (k:Int),rfl,ht,λr=>?_,⟨length_pos_iff.mp b1,λc hc=>AE (hf c hc)⟩,by lia⟩;show Vl.int (intOf (dg (k:Int)))=_;rw[mI b3 b1 b2,BB,BA]
 |word n=>
  obtain⟨s,rfl,h1,h2,h3⟩:=h;have hs:=all_eq_true.mp h1;refine⟨s,by show [[]++s++[]]=[s];simp,?_,λr=>?_,⟨length_pos_iff.mp h2,dz h1⟩,by lia⟩
  .show (!isDot s && wordB s)=true;rw[nE λc hc z=>by have:=hs c hc;rw[z] at this;cases this];unfold wordB;rw[h1,decide_eq_true h2,decide_eq_true h3];rfl
  .show Vl.txt (amid [] [] s)=_;rw[bN]
 |gap n=>
  obtain⟨s,rfl,h1,h2,h3⟩:=h;refine⟨s,by show [[]++s++[]]=[s];simp,?_,λr=>?_,h1,by lia⟩
  .show (!isDot s && true)=true;rw[h3];rfl
  .show Vl.txt (amid [] [] s)=_;rw[bN]
structure GvS (cs:List Pc)(bs:List (Tq×Vl))(ss:List Tq):Prop where
 bnd:boundM cs ss=bs
 fit:∀(i:Nat) (s:Tq),ss[i]?=some s->∃c,cs[min i (cs.length - 1)]?=some c/\fitsM c s=true
 len:(∀c∈cs,c.isRest=false)->ss.length=cs.length
 le:cs.length<=ss.length
 sg:∀s∈ss,SgT s/\s.length<=600
 mx:ss.length<=cs.length+49
theorem GvS.cons {c:Pc}{cs:List Pc}{bs b:List (Tq×Vl)}{s:Tq}{ss:List Tq}(h:GvS cs bs ss)(hf:fitsM c s=true)(hg:SgT s/\s.length<=600)(hb:(if c.isStep then [] else [(c.name,bvM c (s::ss))])=b):GvS (c::cs) (b++bs) (s::ss):=by
 refine⟨?_,λi t ht=>?_,λhr=>?_,?_,λt ht=>?_,?_⟩
 .show (if c.isStep then [] else [(c.name,bvM c (s::ss))])++boundM cs ss=_;rw[hb,h.bnd]
 .cases i with
  |zero=>cases ht;exact⟨c,by rw[Nat.zero_min];rfl,hf⟩
  |succ i=>obtain⟨d,h1,h2⟩:=h.fit i t (by simpa using ht);have hp:=(List.getElem?_eq_some_iff.mp h1).1;refine⟨d,?_,h2⟩;rw[length_cons,show min (i+1) (cs.length+1 - 1)=min i (cs.length - 1)+1 by lia];exact h1
 .rw[length_cons,length_cons,h.len λd hd=>hr d (mem_cons_of_mem _ hd)]
 .rw[length_cons,length_cons];have:=h.le;lia
 .rcases mem_cons.mp ht with z|z
  .rw[z];exact hg
  .exact h.sg t z
 .rw[length_cons,length_cons];have:=h.mx;lia
theorem cY {cs:List Pc}{bs:List (Tq×Vl)}(h:GvA cs bs):(∀c∈cs,PcOk c)->LastR cs->GvS cs bs (stpsM cs bs):=by
 induction h with
 |nil=>exact λ_ _=>⟨rfl,(λi s h=>by simp[stpsM] at h),λ_=>rfl,Nat.le_refl _,(λs hs=>by cases hs),Nat.zero_le _⟩
 |@step w cs bs _ ih=>
  intro ok l;have ih:=ih (λc hc=>ok c (mem_cons_of_mem _ hc)) λi c hc hr=>by have:=l (i+1) c hc hr;rw[length_cons] at this;lia
  obtain⟨o1,o2,o3,o4⟩:=ok _ (mem_cons_self ..);exact ih.cons (c:=.step w) (b:=[]) (by show (!isDot w && decide (w=w))=true;rw[o4,decide_eq_true rfl];rfl) ⟨⟨length_pos_iff.mp o1,o3⟩,by lia⟩ rfl
 |@gap c x cs bs hst hg _ ih=>
  intro ok l;have ih:=ih (λc hc=>ok c (mem_cons_of_mem _ hc)) λi c hc hr=>by have:=l (i+1) c hc hr;rw[length_cons] at this;lia
  rw[bO hst];cases hr:c.isRest with
  |false=>obtain⟨s,e,hf,hb,dl⟩:=nF (ok c (mem_cons_self ..)) hst hr hg;rw[e];exact ih.cons (b:=[(c.name,x)]) hf dl (by rw[hst,hb];rfl)
  |true=>
   have hn:cs=[]:=length_eq_zero_iff.mp (by have:=l 0 c rfl hr;rw[length_cons] at this;lia);subst hn;have ld:bs=[]:=by have:=ih.bnd;exact this.symm
   subst ld;cases c with
   |rest n=>
    obtain⟨ls,rfl,h1,h2,h3⟩:=hg;show GvS [.rest n] [(n,.lst ls)] (ls++[]);rw[append_nil];have hp:=length_pos_iff.mpr h1;refine⟨rfl,λi s hs=>⟨.rest n,by rw[show min i ([Pc.rest n].length - 1)=0 by simp];rfl,?_⟩,λz=>?_,by simp;lia,λs hs=>⟨(h3 s hs).1,by have:=(h3 s hs).2.1;lia⟩,by simp;lia⟩
    .show (!isDot s && true)=true;rw[(h3 s (mem_of_getElem? hs)).2.2];rfl
    .have:=z (.rest n) (mem_singleton.mpr rfl);cases this
   |_=>cases hr
theorem iC {cs:List Pc}{bs:List (Tq×Vl)}(h:GvA cs bs)(ok:∀c∈cs,PcOk c)(l:LastR cs)(e:Bool):fitsP cs e true (stpsM cs bs) e=true:=by
 have g:=cY h ok l;obtain⟨ms,hm⟩:=AQ (ds:=cs) (n:=(stpsM cs bs).length) (by
  cases hr:hasRest cs with
  |true=>exact .inl ⟨rfl,g.le⟩
  |false=>
   refine .inr (g.len λc hc=>?_);cases hcr:c.isRest with
   |false=>rfl
   |true=>obtain⟨i,hi⟩:=List.mem_iff_getElem?.mp hc;rw[B2 l hi hcr] at hr;cases hr)
 refine AR.mpr ⟨ms,hm,rfl,rfl,λi c s hc hs=>?_⟩;obtain⟨d,h1,h2⟩:=g.fit i s hs;have hi:=(List.getElem?_eq_some_iff.mp hs).1;rcases (AO hm).2 i hi with⟨z1,z2⟩|⟨z1,_,d',z3,z4,_⟩
 .rw[z2] at hc;rw[Nat.min_eq_left (by lia),hc] at h1;cases h1;exact h2
 .rw[hc] at z3;cases z3;exact AN z4 (mR h2)
theorem BC {s:Tq}{c:Nat}(hc:c∈s)(h:c≠46):isDot s=false:=l4.mpr ⟨λe=>by
 rw[e] at hc;simp[sUp] at hc;exact h hc,λe=>by
 rw[e] at hc;simp[sStay] at hc;exact h hc⟩
theorem GvA.snoc {cs:List Pc}{bs:List (Tq×Vl)}{c:Pc}{x:Vl}(h:GvA cs bs)(hs:c.isStep=false)(hx:GvOk c x):GvA (cs++[c]) (bs++[(c.name,x)]):=by
 induction h with
 |nil=>exact .gap hs hx .nil
 |step _ ih=>exact .step ih
 |gap h1 h2 _ ih=>exact .gap h1 h2 ih
theorem GvA.snocS {cs:List Pc}{bs:List (Tq×Vl)}{w:Tq}(h:GvA cs bs):GvA (cs++[.step w]) bs:=by
 induction h with
 |nil=>exact .step .nil
 |step _ ih=>exact .step ih
 |gap h1 h2 _ ih=>exact .gap h1 h2 ih
theorem GvA.whole:∀{cs:List Pc}{bs:List (Tq×Vl)},GvA (cs.filter λc=>!c.isStep) bs->GvA cs bs
 |[],_,h=>h
 |c::cs,bs,h=>by
  cases hs:c.isStep with
  |true=>
   rw[filter_cons,if_neg (by rw[hs];decide)] at h;cases c with
   |step w=>exact .step h.whole
   |_=>cases hs
  |false=>
   rw[filter_cons,if_pos (by rw[hs];rfl)] at h;cases h with
   |step h=>cases hs
   |gap h1 h2 h3=>exact .gap h1 h2 h3.whole
theorem GvA.names {cs:List Pc}{bs:List (Tq×Vl)}(h:GvA cs bs):bs.map (·.1)=gapsM cs:=by
 induction h with
 |nil=>rfl
 |step _ ih=>exact ih
 |@gap c x cs bs h1 _ _ ih=>rw[map_cons,ih];unfold gapsM;rw[filter_cons,if_pos (by rw[h1];rfl)];rfl
theorem GvOk.vl {c:Pc}{x:Vl}(h:GvOk c x):VlOk x:=by
 cases c with
 |step w=>exact h.elim
 |part a n t=>obtain⟨s,rfl,_,h2,h3,_⟩:=h;exact⟨h2,by lia⟩
 |num n=>obtain⟨s,rfl,_⟩:=h;trivial
 |word n=>obtain⟨s,rfl,h1,_,h3⟩:=h;exact⟨dz h1,by lia⟩
 |gap n=>obtain⟨s,rfl,h1,h2,_⟩:=h;exact⟨h1.2,by lia⟩
 |rest n=>obtain⟨ls,rfl,_,h2,h3⟩:=h;exact⟨λs hs=>⟨(h3 s hs).1.2,by have:=(h3 s hs).2.1;lia⟩,by lia⟩
theorem GvA.vl {cs:List Pc}{bs:List (Tq×Vl)}(h:GvA cs bs):∀b∈bs,VlOk b.2:=by
 induction h with
 |nil=>intro b hb;cases hb
 |step _ ih=>exact ih
 |gap _ h2 _ ih=>
  intro b hb;rcases mem_cons.mp hb with z|z
  .rw[z];exact h2.vl
  .exact ih b z
theorem nG {cs:List Pc}{bs:List (Tq×Vl)}(h:GvA cs bs):(∀w:Tq,stpsM (cs++[.step w]) bs=stpsM cs bs++[w])/\∀(c:Pc) (b:Tq×Vl),c.isStep=false->stpsM (cs++[c]) (bs++[b])=stpsM cs bs++stM c b.2:=by
 induction h with
 |nil=>exact⟨λw=>rfl,λc b hc=>by show stpsM [c] [b]=_;rw[bO hc];simp[stpsM]⟩
 |step _ ih=>exact⟨λw=>congrArg (_::·) (ih.1 w),λc b hc=>congrArg (_::·) (ih.2 c b hc)⟩
 |@gap c' x cs bs h1 h2 _ ih=>
  refine⟨λw=>?_,λc b hc=>?_⟩
  .show stpsM (c'::(cs++[.step w])) ((c'.name,x)::bs)=_;rw[bO h1,bO h1,ih.1,append_assoc]
  .show stpsM (c'::(cs++[c])) ((c'.name,x)::(bs++[b]))=_;rw[bO h1,bO h1,ih.2 c b hc,append_assoc]
theorem BD {cs:List Pc}(l:LastR cs)(i:Nat):LastR (cs.take i):=λj c hc hr=>by
 rw[List.getElem?_take] at hc;split at hc
 .have h1:=l j c hc hr;have h2:=(List.getElem?_eq_some_iff.mp hc).1;rw[length_take];lia
 .cases hc
theorem BndV.kvs {H:Hp}{l:Addr}{bs:List (Tq×Vl)}{ys:List V}(h:BndV H l bs ys):∃kvs:List (Key×V),kvs.map (·.1)=bs.map (λb=>(Sum.inr ⟨b.1.toArray⟩:Key))/\ys.length=kvs.length/\
  (∀(i:Nat) (u:V),ys[i]?=some u->∃(a:Addr) (kv:Key×V),u=.ref a/\kvs[i]?=some kv/\H a=some (.tup [kV kv.1,kv.2]))/\∀b∈bs,∃w:V,((Sum.inr ⟨b.1.toArray⟩:Key),w)∈kvs/\VlV H b.2 w:=by
 induction h with
 |nil=>exact⟨[],rfl,rfl,λi u hu=>by simp at hu,λb hb=>by cases hb⟩
 |@cons n x p v bs ys h1 h2 h3 _ ih=>
  obtain⟨kvs,a1,a2,a3,a4⟩:=ih;refine⟨(Sum.inr ⟨n.toArray⟩,v)::kvs,by rw[map_cons,map_cons,a1],by rw[length_cons,length_cons,a2],λi u hu=>?_,λb hb=>?_⟩
  .cases i with
   |zero=>cases hu;exact⟨p,_,rfl,rfl,h1⟩
   |succ i=>exact a3 i u (by simpa using hu)
  .rcases mem_cons.mp hb with z|z
   .rw[z];exact⟨v,mem_cons_self ..,h2⟩
   .obtain⟨w,w1,w2⟩:=a4 b z;exact⟨w,mem_cons_of_mem _ w1,w2⟩
theorem BE {c:Pc}{s:Tq}{r:List Tq}(hs:c.isStep=false)(hr:c.isRest=false)(hf:fitsM c s=true)(hg:SgT s)(hl:s.length<=400):GvOk c (bvM c (s::r))/\stM c (bvM c (s::r))=[s]:=by
 have hd:=mR hf;cases c with
 |step w=>cases hs
 |rest n=>cases hr
 |part a n t=>obtain⟨b1,b2⟩:=mK (B1 hf);refine⟨⟨amid a t s,rfl,b2,λz hz=>hg.2 z (AL z hz),by have:=AM (h:=a) (t:=t) (s:=s);lia,by rw[b1];exact hd⟩,?_⟩;show [a++amid a t s++t]=[s];rw[b1]
 |num n=>have hn:numB s=true:=(Bool.and_eq_true_iff.mp hf).2;obtain⟨b1,b2,b3⟩:=mJ hn;refine⟨⟨intOf s,rfl,b2,b3⟩,?_⟩;show [dg (intOf s)]=[s];rw[b1]
 |word n=>have hw:wordB s=true:=(Bool.and_eq_true_iff.mp hf).2;unfold wordB at hw;rw[Bool.and_eq_true,Bool.and_eq_true,decide_eq_true_eq,decide_eq_true_eq] at hw;refine⟨⟨s,by show Vl.txt (amid [] [] s)=_;rw[bN],hw.2,hw.1.1,hw.1.2⟩,?_⟩;show [[]++amid [] [] s++[]]=[s];rw[bN];simp
 |gap n=>refine⟨⟨s,by show Vl.txt (amid [] [] s)=_;rw[bN],hg,hl,hd⟩,?_⟩;show [[]++amid [] [] s++[]]=[s];rw[bN];simp
theorem iE:∀{cs:List Pc}{ss:List Tq},(∀(i:Nat) (c:Pc),cs[i]?=some c->∃s,ss[i]?=some s/\fitsM c s=true)->LastR cs->((∀c∈cs,c.isRest=false)->ss.length=cs.length)->(∀s∈ss,(SgT s/\s.length<=400)/\isDot s=false)->ss.length<=50->GvA cs (boundM cs ss)/\stpsM cs (boundM cs ss)=ss
 |[],ss,_,_,hl,_,_=>by have:=hl (λc hc=>by cases hc);rw[length_nil] at this;rw[length_eq_zero_iff.mp this];exact⟨.nil,rfl⟩
 |c::cs,[],hf,_,_,_,_=>by obtain⟨s,h0,_⟩:=hf 0 c rfl;cases h0
 |c::cs,s::ss,hf,hr,hl,hg,hm=>by
  obtain⟨s',h0,hfs⟩:=hf 0 c rfl;cases h0;obtain⟨⟨g1,g2⟩,g3⟩:=hg s (mem_cons_self ..);have hbe:boundM (c::cs) (s::ss)=(if c.isStep then [] else [(c.name,bvM c (s::ss))])++boundM cs ss:=rfl;by_cases hcr:c.isRest=true
  .have hn:cs=[]:=length_eq_zero_iff.mp (by have:=hr 0 c rfl hcr;rw[length_cons] at this;lia);subst hn;cases c with
   |rest n=>exact⟨.gap rfl ⟨s::ss,rfl,by simp,hm,λz hz=>⟨(hg z hz).1.1,(hg z hz).1.2,(hg z hz).2⟩⟩ .nil,by show (s::ss)++[]=_;simp⟩
   |_=>cases hcr
  .have hcr':c.isRest=false:=by simpa using hcr
   obtain⟨i1,i2⟩:=iE (cs:=cs) (ss:=ss) (λi d hd=>by
    obtain⟨z,h1,h2⟩:=hf (i+1) d (by simpa using hd);exact⟨z,by simpa using h1,h2⟩) (λi d hd hdr=>by
    have:=hr (i+1) d (by simpa using hd) hdr;rw[length_cons] at this;lia) (λh=>by
    have:=hl (λd hd=>by
     rcases mem_cons.mp hd with z9|hd
     .rw[z9];exact hcr'
     .exact h d hd)
    simp only[length_cons] at this;lia) (λz hz=>hg z (mem_cons_of_mem _ hz)) (by rw[length_cons] at hm;lia)
   rw[hbe];cases hst:c.isStep with
   |true=>
    cases c with
    |step w=>have:s=w:=B0 hfs;subst this;exact⟨.step i1,congrArg (_::·) i2⟩
    |_=>cases hst
   |false=>obtain⟨v1,v2⟩:=BE (r:=ss) hst hcr' hfs g1 g2;refine⟨.gap hst v1 i1,?_⟩;show stpsM (c::cs) ((c.name,bvM c (s::ss))::boundM cs ss)=_;rw[bO hst,v2,i2];rfl
def SmV:Vl->Prop
 |.txt s=>s.length<=90
 |.int _=>True
 |.lst ls=>ls.length<=5/\∀s∈ls,s.length<=90
theorem BF {c:Pc}{x:Vl}(ok:PcOk c)(hs:c.isStep=false)(h:GvOk c x)(sm:SmV x):(stM c x).length<=5/\∀s∈stM c x,s.length<=400:=by
 cases c with
 |step w=>cases hs
 |rest n=>obtain⟨ls,rfl,_⟩:=h;exact⟨sm.1,λs hs=>Nat.le_trans (sm.2 s hs) (by decide)⟩
 |num n=>obtain⟨s,e,hf,_⟩:=nF ok rfl rfl h;rw[e];exact⟨by simp,λz hz=>by rw[mem_singleton.mp hz];have:=(gZ hf).2.1;lia⟩
 |part a n t=>obtain⟨s,rfl,_⟩:=h;obtain⟨o1,o2,_⟩:=ok;have sm:s.length<=90:=sm;exact⟨by show [_].length<=5;simp,λz hz=>by rw[mem_singleton.mp (show z∈[a++s++t] from hz)];simp only[length_append];lia⟩
 |word n=>obtain⟨s,rfl,_⟩:=h;have sm:s.length<=90:=sm;exact⟨by show [_].length<=5;simp,λz hz=>by rw[mem_singleton.mp (show z∈[[]++s++[]] from hz)];simp;lia⟩
 |gap n=>obtain⟨s,rfl,_⟩:=h;have sm:s.length<=90:=sm;exact⟨by show [_].length<=5;simp,λz hz=>by rw[mem_singleton.mp (show z∈[[]++s++[]] from hz)];simp;lia⟩
theorem nH {cs:List Pc}{bs:List (Tq×Vl)}(h:GvA cs bs):(∀c∈cs,PcOk c)->(∀b∈bs,SmV b.2)->(stpsM cs bs).length<=5 * cs.length/\∀s∈stpsM cs bs,s.length<=400:=by
 induction h with
 |nil=>exact λ_ _=>⟨Nat.le_refl _,λs hs=>by cases hs⟩
 |@step w cs bs _ ih=>
  intro ok sm;obtain⟨i1,i2⟩:=ih (λc hc=>ok c (mem_cons_of_mem _ hc)) sm;have o:=(ok _ (mem_cons_self ..)).2.1;refine⟨by show (w::stpsM cs bs).length<=_;rw[length_cons,length_cons];lia,λs hs=>?_⟩;rcases mem_cons.mp (show s∈w::stpsM cs bs from hs) with z|z
  .rw[z];lia
  .exact i2 s z
 |@gap c x cs bs hst hg _ ih=>
  intro ok sm;obtain⟨i1,i2⟩:=ih (λc hc=>ok c (mem_cons_of_mem _ hc)) (λb hb=>sm b (mem_cons_of_mem _ hb));obtain⟨j1,j2⟩:=BF (ok c (mem_cons_self ..)) hst hg (sm (c.name,x) (mem_cons_self ..));rw[bO hst];refine⟨by rw[length_append,length_cons];have:(stM c (c.name,x).2).length<=5:=j1;lia,λs hs=>?_⟩;rcases mem_append.mp hs with z|z
  .exact j2 s z
  .exact i2 s z
end Wm
namespace L2
open PySem
section
variable {X:Cx}
def rStrU:List V->Hp->VK->Prop:=λxs H Q=>(∃i:Int,xs=[.int i]/\i.natAbs.log2 < 1920/\Q (.str (toString i)) H)\/∃z:Str,xs=[.str z]/\Q (.str z) H
theorem BG:CallR X (.type "str") rStrU:=by
 intro pins s Z H xs us Q I r h;rcases h with⟨i,rfl,hz,q⟩|⟨z,rfl,q⟩
 .exact jU pins s Z H _ us Q I r ⟨i,rfl,hz,q⟩
 .obtain⟨u,e9,t,rfl⟩:=vals1 r;subst e9;exact PySem.P.str_of_str ⟨.str z,H,I,⟨t,rfl⟩,q⟩
end
end L2
namespace Wm
open PySem L2
theorem BH {c:Pc}(h:c.isStep=true):∃w,c=.step w:=by cases c <;> first|exact⟨_,rfl⟩|cases h
theorem BI {c:Pc}(h:c.isPart=true):∃a n t,c=.part a n t:=by cases c <;> first|exact⟨_,_,_,rfl⟩|cases h
theorem BJ {c:Pc}(h:c.isRest=true):∃n,c=.rest n:=by cases c <;> first|exact⟨_,rfl⟩|cases h
theorem BK {c:Pc}(h1:¬ c.isStep=true)(h2:¬ c.isPart=true)(h3:¬ c.isRest=true):(∃n,c=.num n)\/(∃n,c=.word n)\/∃n,c=.gap n:=by cases c <;> first|exact absurd rfl h1|exact absurd rfl h2|exact absurd rfl h3|exact .inl ⟨_,rfl⟩|exact .inr (.inl ⟨_,rfl⟩)|exact .inr (.inr ⟨_,rfl⟩)
theorem BL {c:Pc}(h1:¬ c.isStep=true)(h2:¬ c.isPart=true):c.vals[1]?=some (tV c.name):=by cases c <;> first|exact absurd rfl h1|exact absurd rfl h2|rfl
noncomputable abbrev mkS (l:Tq):Str:=⟨l.toArray⟩
theorem BM (t:Tq)(c i:Nat):(decide (i+(mkS [c]).length<=(mkS t).length) && Builtin.Str.subAt (mkS t) (mkS [c]) i)=decide (t[i]?=some c):=by
 by_cases hi:i<=t.length
 .rw[gK t [c] i hi,decide_eq_decide];cases h:t.drop i with
  |nil=>have:t[i]?=none:=List.getElem?_eq_none (by have:=congrArg List.length h;rw[length_drop,length_nil] at this;lia);rw[this];simp
  |cons d r=>
   have:t[i]?=some d:=by rw[<- List.head?_drop,h];rfl
   rw[this];simp
 .rw[List.getElem?_eq_none (by lia),aG,aG,decide_eq_false (by rw[length_singleton];lia)];rfl
theorem nI (t:Tq)(c:Nat):Builtin.Str.occurrences (mkS t) (mkS [c]) 0 (mkS t).length 1=((List.range' 0 (t.length+1)).find? λi=>decide (t[i]?=some c)).toList:=by rw[StrLaws.occ_eq,occ1 _ _ _ _ (λi _=>Nat.zero_le i)];simp only[BM];rw[aG];rfl
theorem nJ {t:Tq}{c:Nat}(h:c∉t):Txt.partition (mkS t) (mkS [c])=(mkS t,⟨#[]⟩,⟨#[]⟩):=by unfold Txt.partition;rw[nI,List.find?_eq_none.mpr λi _ z=>h (mem_of_getElem? (of_decide_eq_true z))];rfl
theorem iF {a b:Tq}{c:Nat}(h:c∉a):Txt.partition (mkS (a++c::b)) (mkS [c])=(mkS a,mkS [c],mkS b):=by
 unfold Txt.partition;have e:(List.range' 0 ((a++c::b).length+1)).find? (λi=>decide ((a++c::b)[i]?=some c))=some a.length:=by
  rw[List.find?_range'_eq_some];refine⟨decide_eq_true (by simp),?_,λj _ hj=>?_⟩
  .rw[List.mem_range'_1];simp only[length_append,length_cons];lia
  .rw[decide_eq_false λz=>?_]
   .rfl
   .rw[List.getElem?_append_left hj] at z;exact h (mem_of_getElem? z)
 rw[nI,e];show (Builtin.Str.strSub (mkS (a++c::b)) 0 a.length,mkS [c],Builtin.Str.strSub (mkS (a++c::b)) (a.length+(mkS [c]).length) (mkS (a++c::b)).length)=_;rw[aG,aG];refine Prod.ext ?_ (Prod.ext rfl ?_)
 .show (⟨(a++c::b).toArray.extract 0 a.length⟩:Str)=_;simp
 .show (⟨(a++c::b).toArray.extract (a.length+1) (a++c::b).length⟩:Str)=_;simp;exact take_of_length_le (by lia)
theorem nK {K:W.Frag}{H:Hp}:∀{ss:List Str}{xs:List V},IsKAll K H (ss.map PyData.str) xs->xs=ss.map V.str
 |[],_,.nil=>rfl
 |s::ss,_,.cons h r=>by cases h;rw[nK r];rfl
theorem nL {K:W.Frag}{H:Hp}{ss:List Str}{p:Addr}(h:IsK K H (.tuple (ss.map PyData.str)) (.ref p)):SqT K H p (ss.map V.str):=by
 cases h with
 |tup hp r=>rw[<- nK r];exact hp
theorem iG (k:Str):∀ss:List Str,inV (.str k) (ss.map V.str)=decide (k∈ss)
 |[]=>rfl
 |s::ss=>by
  have ih:=iG k ss;have e:eqV (.str s) (.str k)=decide (k=s):=by show (s == k)=decide (k=s);rw[Bool.eq_iff_iff,beq_iff_eq,decide_eq_true_eq];exact⟨Eq.symm,Eq.symm⟩
  unfold inV at ih ⊢;rw[map_cons,any_cons,ih,e,Bool.eq_iff_iff,Bool.or_eq_true,decide_eq_true_eq,decide_eq_true_eq,decide_eq_true_eq,mem_cons]
theorem nM (sep:Nat):∀ys:List Tq,Str.join (mkS [sep]) (ys.map mkS)=mkS (joinT sep ys)
 |[]=>by rw[map_nil,Str.join.eq_1];rfl
 |[x]=>by rw[map_cons,map_nil,Str.join.eq_2];simp[joinT,tlT]
 |x::y::r=>by rw[map_cons,Str.join.eq_3 _ _ _ (by simp),nM sep (y::r),aU,aU];simp[joinT,tlT]
theorem cZ (z:Str):mkS z.cps.toList=z:=by cases z;simp
theorem BN {c:Nat}{ts:List Tq}(hf:Free c ts)(h:ts≠[]):Txt.split (mkS (joinT c ts)) ⟨#[c]⟩=ts.map mkS:=by
 obtain⟨qs,hq⟩:∃qs:List Tq,qs=(Txt.split (mkS (joinT c ts)) ⟨#[c]⟩).map (λz=>z.cps.toList):=⟨_,rfl⟩;have e:Txt.split (mkS (joinT c ts)) ⟨#[c]⟩=qs.map mkS:=by
  rw[hq,map_map]
  conv=>lhs;rw[<- map_id (Txt.split (mkS (joinT c ts)) ⟨#[c]⟩)]
  exact map_congr_left λz _=>(cZ z).symm
 have hj:=StrLaws.join_split (mkS (joinT c ts)) ⟨#[c]⟩;rw[e] at hj;have dl:joinT c qs=joinT c ts:=aR.mp ((nM c qs).symm.trans hj);have ld:Free c qs:=λs hs d hd=>by rw[hq] at hs;obtain⟨z,hz,rfl⟩:=mem_map.mp hs;exact λy=>StrLaws.split_free _ c z hz (by rw[<- y];exact hd)
 have hn:qs≠[]:=λz=>by
  have hl:=PyProof.Rows.len_of_split (l:=(Txt.split (mkS (joinT c ts)) ⟨#[c]⟩).map λz=>(z,0)) (x:=mkS (joinT c ts)) (y:=⟨#[c]⟩) (by
   rw[map_map]
   conv=>rhs;rw[<- map_id (Txt.split (mkS (joinT c ts)) ⟨#[c]⟩)]
   rfl)
  rw[length_map,e,z] at hl;exact absurd hl (by decide)
 rw[e,yK ld hf hn h dl]
def NmOk (n:Tq):Prop:=(1<=n.length/\n.length<=8)/\n.all isSma=true
inductive PcW:Pc->Tq->Prop
 |step {s w:Tq}:WrT frS s w->s≠[]->PcW (.step s) w
 |part {h n t a b:Tq}:WrT frS h a->WrT frS t b->h++t≠[]->NmOk n->PcW (.part h n t) (a++123::(n++125::b))
 |gap {n:Tq}:NmOk n->PcW (.gap n) (123::(n++[125]))
 |num {n:Tq}:NmOk n->PcW (.num n) (123::(n++58::([110,117,109,98,101,114]++[125])))
 |word {n:Tq}:NmOk n->PcW (.word n) (123::(n++58::([119,111,114,100]++[125])))
 |rest {n:Tq}:NmOk n->PcW (.rest n) (123::(n++58::([114,101,115,116]++[125])))
theorem eH {n:Tq}(h:n.all isSma=true):∀c∈n,97<=c/\c<=122:=λc hc=>by have:=all_eq_true.mp h c hc;unfold isSma at this;simpa using this
theorem ca {s w:Tq}(h:WrT frS s w):∀c∈w,c≠47/\c≠123/\c≠125:=by
 have dl:∀c,(isPl c=true\/c∈frS)->c≠47/\c≠123/\c≠125:=λc hc=>by
  rcases hc with hc|hc
  .refine⟨λz=>?_,λz=>?_,λz=>?_⟩ <;> (rw[z] at hc;exact absurd hc (by fail "k"))
  .refine⟨λz=>?_,λz=>?_,λz=>?_⟩ <;> (rw[z] at hc;exact absurd hc (by fail "k"))
 induction h with
 |nil=>intro c hc;cases hc
 |self h1 h2 _ ih=>
  intro c hc;rcases mem_cons.mp hc with rfl|hc
  .exact dl c h1
  .exact ih c hc
 |pair h1 _ ih=>
  intro c hc;obtain⟨f1,f2,f3,_⟩:=gL h1;simp only[mem_cons] at hc;have fg:∀{a b d:Nat},sgO a b=some d->(a≠47/\a≠123/\a≠125)/\(b≠47/\b≠123/\b≠125):=λ{a b d} h=>by refine⟨⟨λz=>?_,λz=>?_,λz=>?_⟩,⟨λz=>?_,λz=>?_,λz=>?_⟩⟩ <;> (subst z;unfold sgO at h;simp[fig] at h)
  obtain⟨g1,g2⟩:=fg h1;rcases hc with rfl|rfl|rfl|hc
  .decide
  .exact g1
  .exact g2
  .exact ih c hc
noncomputable def kwN:List Str:=[ofString "number",ofString "word",ofString "gap",ofString "rest"]
noncomputable def restsL (cs:List Pc):Bool:=cs.dropLast.all λc=>!c.isRest
theorem BO:ofString "number" ≠ ofString "step"/\ofString "word" ≠ ofString "step"/\ofString "gap" ≠ ofString "step"/\ofString "rest" ≠ ofString "step"/\ofString "part" ≠ ofString "step"/\ofString "number" ≠ ofString "part"/\ofString "word" ≠ ofString "part"/\ofString "gap" ≠ ofString "part"/\ofString "rest" ≠ ofString "part"/\ofString "word" ≠ ofString "number"/\ofString "gap" ≠ ofString "number"/\ofString "rest" ≠ ofString "number"/\ofString "gap" ≠ ofString "word"/\ofString "rest" ≠ ofString "word"/\ofString "rest" ≠ ofString "gap" := by fail "k"
theorem eI {n:Nat}{ds:List PyData}:tupN (n:Int) (.tuple ds)=true↔ds.length=n:=by show decide ((ds.length:Int)=(n:Int))=true↔_;rw[decide_eq_true_iff];lia
theorem nN (xs:List V):cutV xs none (some (-1))=xs.dropLast:=yl xs
theorem nO {H:Hp}:∀{l:List Tq}{xs:List V},IsAll H (l.map st) xs->xs=l.map tV
 |[],_,.nil=>rfl
 |a::l,_,.cons h r=>by cases h;rw[nO r];rfl
theorem iH {H:Hp}{c:Pc}{x:V}(h:Is H (pcD c) x):∃p,x=.ref p/\H p=some (.tup c.vals):=by
 have dl:∀(k:Str) (l:List Tq),Is H (.tuple (.str k::l.map st)) x->∃p,x=.ref p/\H p=some (.tup (.str k::l.map tV)):=λk l h=>by
  cases h with
  |tup hp r=>
   cases r with
   |cons h1 r=>cases h1;have e:=nO r;subst e;exact⟨_,rfl,hp⟩
 cases c with
 |step s=>exact dl _ [s] h
 |part a n t=>exact dl _ [a,n,t] h
 |num n=>exact dl _ [n] h
 |word n=>exact dl _ [n] h
 |gap n=>exact dl _ [n] h
 |rest n=>exact dl _ [n] h
theorem BP {l:List Tq}:(l.map mkS).Nodup↔l.Nodup:=by
 constructor
 .intro h;rw[nodup_iff_pairwise_ne] at h ⊢;rw[List.pairwise_map] at h;exact h.imp λa b=>a (congrArg mkS b)
 .intro h;rw[nodup_iff_pairwise_ne] at h ⊢;rw[List.pairwise_map];exact h.imp λa b=>a (aR.mp b)
noncomputable def pcT:Pc->Tq
 |.step s=>wr s
 |.part h n t=>wr h++123::(n++125::wr t)
 |.gap n=>123::(n++[125])
 |.num n=>123::(n++58::([110,117,109,98,101,114]++[125]))
 |.word n=>123::(n++58::([119,111,114,100]++[125]))
 |.rest n=>123::(n++58::([114,101,115,116]++[125]))
inductive PcWs:List Pc->List Tq->Prop
 |nil:PcWs [] []
 |cons {c:Pc}{w:Tq}{cs:List Pc}{ws:List Tq}:PcW c w->PcWs cs ws->PcWs (c::cs) (w::ws)
theorem PcWs.length {cs:List Pc}{ws:List Tq}(h:PcWs cs ws):ws.length=cs.length:=by
 induction h with
 |nil=>rfl
 |cons _ _ ih=>rw[length_cons,length_cons,ih]
theorem PcWs.snoc {c:Pc}{w:Tq}(h:PcW c w){cs:List Pc}{ws:List Tq}(a:PcWs cs ws):PcWs (cs++[c]) (ws++[w]):=by
 induction a with
 |nil=>exact .cons h .nil
 |cons a _ ih=>exact .cons a ih
theorem PcWs.get {cs:List Pc}{ws:List Tq}(h:PcWs cs ws):∀{i:Nat}{w:Tq},ws[i]?=some w->∃c,cs[i]?=some c/\PcW c w:=by
 induction h with
 |nil=>intro i w h;simp at h
 |cons a r ih=>
  intro i w hw;cases i with
  |zero=>cases hw;exact⟨_,rfl,a⟩
  |succ i=>exact ih (by simpa using hw)
theorem iI {s w:Tq}(h:WrT frS s w):und frS w=some s:=by
 induction h with
 |nil=>exact kL _
 |self h1 h2 _ ih=>rw[kN h2 (by rcases h1 with h|h;rw[h];rfl;rw[decide_eq_true h,Bool.or_true]),ih];rfl
 |pair h1 _ ih=>rw[kM h1,ih];rfl
theorem iJ {s w:Tq}(h:WrT frS s w):∀c∈w,c < 128:=zc (by fail "k") h
theorem nP {c:Pc}{w:Tq}(h:PcW c w):w≠[]/\∀x∈w,x≠47:=by
 have nm:∀{n:Tq},NmOk n->∀x∈n,x≠47:=λ{n} hn x hx=>by have:=eH hn.2 x hx;lia
 cases h with
 |@step s w h hs=>refine⟨λz=>?_,λx hx=>(ca h x hx).1⟩;have:=di h;rw[z,length_nil] at this;exact hs (length_eq_zero_iff.mp (by lia))
 |part h1 h2 h3 h4=>
  refine⟨by simp,λx hx=>?_⟩;simp only[mem_append,mem_cons] at hx;rcases hx with hx|rfl|hx|rfl|hx
  .exact (ca h1 x hx).1
  .decide
  .exact nm h4 x hx
  .decide
  .exact (ca h2 x hx).1
 |gap h1=>
  refine⟨by simp,λx hx=>?_⟩;simp only[mem_append,mem_cons,not_mem_nil,or_false] at hx;rcases hx with rfl|hx|rfl
  .decide
  .exact nm h1 x hx
  .decide
 |num h1=>
  refine⟨by simp,λx hx=>?_⟩;simp only[mem_append,mem_cons,not_mem_nil,or_false] at hx;rcases hx with rfl|hx|hx
  .decide
  .exact nm h1 x hx
  .lia
 |word h1=>
  refine⟨by simp,λx hx=>?_⟩;simp only[mem_append,mem_cons,not_mem_nil,or_false] at hx;rcases hx with rfl|hx|hx
  .decide
  .exact nm h1 x hx
  .lia
 |rest h1=>
  refine⟨by simp,λx hx=>?_⟩;simp only[mem_append,mem_cons,not_mem_nil,or_false] at hx;rcases hx with rfl|hx|hx
  .decide
  .exact nm h1 x hx
  .lia
theorem BQ {cs:List Pc}{ws:List Tq}{e:Bool}(h:PcWs cs ws)(h0:cs=[]->e=true):slT true ws e=47::joinT 47 (ws++if e then [[]] else [])/\Free 47 (ws++if e then [[]] else [])/\(ws++if e then [[]] else [])≠[]:=by
 have hl:=h.length;refine⟨?_,λs hs c hc=>?_,?_⟩
 .unfold slT;cases ws with
  |nil=>rw[length_nil] at hl;rw[h0 (length_eq_zero_iff.mp hl.symm)];rfl
  |cons w ws=>
   cases e with
   |false=>simp
   |true=>have e:=yL 47 [] (show w::ws≠[] by simp);simp;rw[show w::(ws++[[]])=(w::ws)++[[]] from rfl,e]
 .rcases mem_append.mp hs with z|z
  .obtain⟨i,hi,ei⟩:=List.getElem_of_mem z;obtain⟨d,_,hd⟩:=h.get (List.getElem?_eq_some_iff.mpr ⟨hi,ei⟩);exact (nP hd).2 c hc
  .cases e with
   |false=>cases z
   |true=>rw[mem_singleton.mp z] at hc;cases hc
 .cases ws with
  |nil=>rw[length_nil] at hl;rw[h0 (length_eq_zero_iff.mp hl.symm)];simp
  |cons w ws=>simp
theorem nQ {H:Hp}:∀{l:List Int},IsAll H (l.map PyData.int) (l.map V.int)
 |[]=>.nil
 |i::_=>.cons (.int i) nQ
noncomputable def kwW:List Str:=[ofString "number",ofString "word",ofString "rest"]
theorem iK {t:Tq}(h:t.length<=100000):smallD (st t)=true:=by show decide ((mkS t).length<=100000)=true;rw[aG];exact decide_eq_true h
theorem nR (sep n:Nat):∀{ws:List Tq},(∀w∈ws,w.length<=n)->(joinT sep ws).length<=ws.length * (n+1)/\(ws.map (·.length)).sum<=ws.length * n
 |[],_=>⟨by simp[joinT],by simp⟩
 |w::ws,h=>by
  have tl:∀{ws:List Tq},(∀w∈ws,w.length<=n)->(tlT sep ws).length<=ws.length * (n+1)/\(ws.map (·.length)).sum<=ws.length * n:=λ{ws}=>by
   induction ws with
   |nil=>exact λ_=>⟨by simp[tlT],by simp⟩
   |cons a r ih=>intro h;obtain⟨i1,i2⟩:=ih λw hw=>h w (mem_cons_of_mem _ hw);have:=h a (mem_cons_self ..);simp only[tlT,length_cons,length_append,map_cons,sum_cons,Nat.add_mul,Nat.one_mul];exact⟨by lia,by lia⟩
  obtain⟨i1,i2⟩:=tl λw hw=>h w (mem_cons_of_mem _ hw);have:=h w (mem_cons_self ..);simp only[joinT,length_cons,length_append,map_cons,sum_cons,Nat.add_mul,Nat.one_mul];exact⟨by lia,by lia⟩
theorem BR {c:Pc}(o:PcOk c)(hn:c.isStep=false->NmOk c.name):PcSg c:=by
 refine⟨λl e=>by rw[e] at o;exact o.2.2.1,λh n t e=>by rw[e] at o;exact⟨o.2.2.1,o.2.2.2.1⟩,?_⟩;have nm:∀{n:Tq},NmOk n->∀x∈n,isSg x=true:=λ{n} h x hx=>by have:=eH h.2 x hx;unfold isSg;simp;lia
 cases c with
 |step s=>intro x hx;cases hx
 |part h n t=>exact nm (hn rfl)
 |num n=>exact nm (hn rfl)
 |word n=>exact nm (hn rfl)
 |gap n=>exact nm (hn rfl)
 |rest n=>exact nm (hn rfl)
theorem iL {H:Hp}:∀{ds:List PyData}{xs:List V},IsTAll H ds xs->xs.length=ds.length/\∀(i:Nat) (x:V),xs[i]?=some x->∃d,ds[i]?=some d/\IsT H d x
 |_,_,.nil=>⟨rfl,λi x h=>by simp at h⟩
 |_,_,.cons q t=>by
  obtain⟨h1,h2⟩:=iL t;refine⟨by rw[length_cons,length_cons,h1],λi x h=>?_⟩;cases i with
  |zero=>simp at h;subst h;exact⟨_,rfl,q⟩
  |succ i=>obtain⟨d,e1,e2⟩:=h2 i x (by simpa using h);exact⟨d,by simpa using e1,e2⟩
theorem iM {K:W.Frag}{H:Hp}:∀{cs:List Pc}{xs:List V},IsTAll H (cs.map pcD) xs->PcAll K H cs xs
 |[],_,.nil=>.nil
 |c::cs,_,.cons h t=>by obtain⟨p,rfl,hp⟩:=iH h.is;exact .cons (.of hp) (iM t)
def PtG (cs:List Pc)(e:Bool):Prop:=PatOk cs/\(∀c∈cs,c.isStep=false->NmOk c.name)/\(gapsM cs).Nodup/\cs.length<=12/\(cs=[]->e=true)
noncomputable abbrev ptD (cs:List Pc)(e:Bool):PyData:=.tuple [.tuple (cs.map pcD),.bool e]
theorem BS {cs:List Pc}(h:PatOk cs):restsL cs=true:=all_eq_true.mpr λc hc=>by
 obtain⟨i,hi,ei⟩:=List.getElem_of_mem hc;rw[length_dropLast] at hi;rw[List.getElem_dropLast] at ei;cases er:c.isRest with
 |false=>rfl
 |true=>have:=h.2 i c (List.getElem?_eq_some_iff.mpr ⟨by lia,ei⟩) er;lia
theorem BU (c:Pc):(∃s,c=.step s)\/(∃h n t,c=.part h n t)\/c.isStep=false/\c.isPart=false/\c.tl=[tV c.name]/\c.kw∈kwN:=by
 cases c with
 |step s=>exact .inl ⟨s,rfl⟩
 |part h n t=>exact .inr (.inl ⟨h,n,t,rfl⟩)
 |_ n=>exact .inr (.inr ⟨rfl,rfl,rfl,by unfold kwN;simp[Pc.kw]⟩)
inductive GpW:Pc->Tq->Tq->Tq->Prop
 |part {h n t a b:Tq}:WrT frS h a->WrT frS t b->h++t≠[]->GpW (.part h n t) a n b
 |gap {n:Tq}:58∉n->GpW (.gap n) [] n []
 |kw {c:Pc}{n k:Tq}:58∉n->c.kw=mkS k->c.kw∈kwW->pcD c=.tuple [.str c.kw,st n]->GpW c [] (n++58::k) []
theorem BV {c:Pc}{w:Tq}(h:PcW c w):(∃s,c=.step s/\WrT frS s w)\/∃a i b,w=a++123::(i++125::b)/\123∉a/\125∉i/\GpW c a i b:=by
 have nm:∀{n:Tq},NmOk n->125∉n/\58∉n:=λ{n} hn=>⟨λz=>by have:=eH hn.2 _ z;lia,λz=>by have:=eH hn.2 _ z;lia⟩;have kw:∀(c:Pc) (k n:Tq),NmOk n->125∉k->c.kw=mkS k->c.kw∈kwW->pcD c=.tuple [.str c.kw,st n]->∃a i b,123::(n++58::(k++[125]))=a++123::(i++125::b)/\123∉a/\125∉i/\GpW c a i b:=λc k n hn hk e1 e2 e3=>
  ⟨[],n++58::k,[],by simp,by simp,by simp;exact⟨(nm hn).1,hk⟩,.kw (nm hn).2 e1 e2 e3⟩
 cases h with
 |step h1 h2=>exact .inl ⟨_,rfl,h1⟩
 |part h1 h2 h3 h4=>exact .inr ⟨_,_,_,rfl,λz=>(ca h1 _ z).2.1 rfl,(nm h4).1,.part h1 h2 h3⟩
 |@gap n h1=>exact .inr ⟨[],n,[],rfl,by simp,(nm h1).1,.gap (nm h1).2⟩
 |num h1=>exact .inr (kw _ _ _ h1 (by decide) (show ofString "number"=_ by fail "k") (by unfold kwW;simp[Pc.kw]) rfl)
 |word h1=>exact .inr (kw _ _ _ h1 (by decide) (show ofString "word"=_ by fail "k") (by unfold kwW;simp[Pc.kw]) rfl)
 |rest h1=>exact .inr (kw _ _ _ h1 (by decide) (show ofString "rest"=_ by fail "k") (by unfold kwW;simp[Pc.kw]) rfl)
end Wm
namespace L2
open PySem Wm
theorem BW {K:W.Frag}{p a:Addr}{fv:St}{te:TE}{Q:VK}{H1:Hp}{xs:List V}{α:Type}{g:α->PyData}{l:List α}(hxs:SqL K H1 a xs)(hlen:xs.length<=sizeLine)(hp:H1 p=none)(hl:l.length=xs.length)
  (he:∀(i:Nat) (x:V) (c:α),xs[i]?=some x->l[i]?=some c->∀(H':Hp) (T:VK),Same H1 H'->(∀y H'',Same H' H''->IsT H'' (g c) y->T y H'')->te (some x::fv) H' T)
  (hQ:∀ys H',Same H1 H'->IsTAll H' (l.map g) ys->H' p=some (.lst ys)->Q (.ref p) H'):CompI (Itl K a) p fv tYes te Q H1:=by
 refine⟨λi m ys H2=>m=xs.length - i/\i<=xs.length/\IsTAll H2 ((l.take i).map g) ys/\H2 p=some (.lst ys)/\Same H1 H2,⟨xs.length,by simp,Nat.zero_le _,by rw[take_zero];exact .nil,aC,aN hp⟩,?_⟩;rintro i m ys H2 ⟨rfl,hi,dl,ld,sm⟩;refine⟨ld,?_⟩;have q:=sm.seq hxs;have BT:=dl.length;rw[length_map,length_take] at BT;by_cases mt:i < xs.length
 .refine .inr ⟨⟨xs,xs[i],q,by simp[mt]⟩,by lia,λx H3 y=>?_⟩;obtain⟨rfl,y⟩:=y;have hc:=y xs q;have hd:l[i]?=some (l[i]'(hl▸mt)):=List.getElem?_eq_getElem _;unfold tYes;dsimp only;rw[if_pos rfl];refine he i x _ hc hd _ _ sm λy H5 s5 hr=>⟨s5 _ _ ld,xs.length - (i+1),by lia,rfl,mt,?_,aC,bL hp (sm.trans s5)⟩;rw[take_add_one,hd,map_append];exact ((dl.mono s5.toT).snoc hr).mono (bD (s5 _ _ ld))
 .have e:i=xs.length:=by lia
  subst e;rw[<- hl,take_length] at dl;exact .inl ⟨⟨xs,q,Nat.le_refl _⟩,hQ ys H2 sm dl ld⟩
theorem BX {c A X R:Prop}[Decidable c](hA:A->X)(h1:c->A)(h2:¬ c->(A->X)->R):if c then X else R:=ite2 (λz=>hA (h1 z)) (λz=>h2 z hA)
end L2
namespace L2
open PySem PySem.Spec PyProof.Rows
structure Fd (K:W.Frag)(mg:Str->Option Value)(x:Str)(s:Stmt)(ps:List Str) where
 a:Addr
 fd:FuncData
 F:Fun K x x s a fd
 m:mg x=some (.ref a)
 b:Binds K fd ps []
noncomputable def BY {K:W.Frag}{h:Heap}{mg:Str->Option Value}{x:Str}{s:Stmt}{ps:List Str}{f:Addr}{oc:Value}{od an:Option Addr}{osl:Array (Option Value)}{kV doc pm cdv ct:Value}(X:K.In h)(Gl:h.Ns mainGlobals mg)
  (a:PySem.W.nsIn K mainGlobals x=some (some (.ref f))) (l:K.lookup f=some ⟨oc,od,.func (PySem.W.fnOf x x (defArgs s) (defBody s) (defScope s) .none kV doc pm an cdv ct),osl⟩) (c:PySem.W.codeIn K cdv x=true) (k:PySem.W.keepIn K (.ref f)=true)
  (hb:∀(kV doc pm:Value) (an:Option Addr) (cdv ct:Value) (us:List Value),us.length=ps.length->bindArgs (PySem.W.fnOf x x (defArgs s) (defBody s) (defScope s) .none kV doc pm an cdv ct) ⟨us,[]⟩=pure (ps.zip us)):Fd K mg x s ps:=
 ⟨f,_,bV l c k,PySem.W.mg_of X Gl a,(bV l c k).binds hb⟩
abbrev Fd.Ok {K:W.Frag}{mg:Str->Option Value}{x:Str}{s:Stmt}{ps:List Str}(f:Fd K mg x s ps)(P:Program)(w:World)(base:Heap)(k:Nat)(sp:Sp):Prop:=FnOk P w K mg base CX0 k f.a f.fd ps sp
theorem aY {X:Cx}{k k':Nat}{sp:Sp}{x:Str}{st:Stmt}{ps:List Str}{e:Expr}{es:List Expr}{t:TA}{p pos:Pos}(f:Fd X.K X.mg x st ps)(F:FnOk X.prog X.w X.K X.mg X.base CX0 k f.a f.fd ps sp)(hr:Room k' X.A)(hg:Gl X x)
  (ha:PA X (e::es) t) (hk:k<=k':=by decide) (hdb:(x == ("__debug__" : Str))=false:=by decide) (he:starEach (e::es) X.env=(false,eval e X.env)::starEach es X.env:=by rfl) (hpl:(backTo pos (starEach es X.env)).any (·.1)=false:=by rfl) :
  PE X (.Call (.Name x p) (e::es) [] pos) (tCall sp [] E0 t):=ag F (hr.mono hk) hg f.m f.F.kp f.b .nil pass0 ha hdb he hpl
structure CpOk (X:Cx)(xs fx:List Str)(fr:Tq)(scope:Scope)(cl:List (Str×Addr))(iter:Expr):Prop where
 hc:X.calm=true
 hclos:closureFor scope X.env=pure cl
 hcell:∀y∈scope.names,y.2≠.cell
 hkind:scope.kind=.function
 hnames:∀y∈scope.names,y.2=.local->scope.names.lookup y.1=some .local
 hx:∀x∈xs,scope.names.lookup x=some .local
 hnd:(xs++fx).Nodup
 hk:(cl.all λq=>fx.contains q.1)=true
 F:Frees X (relabel scope X.env) cl fx fr
 hfx:((relabel scope X.env).names.all λp=>if (p.2 == .cell || p.2 == .free) then fx.contains p.1 else true)=true
 hs:∀x,foldedSetIterable iter X.env x=pure x
section
variable {X:Cx}{pins:List (Addr×Obj)}{Z:St}{H1:Hp}{s3:Shared}{xs fx:List Str}{fr:Tq}{scope:Scope}{cl:List (Str×Addr)}{fp:List Addr}{iter:Expr}
theorem CpOk.clo (c:CpOk X xs fx fr scope cl iter){y:Str}{a:Addr}(e:cl.lookup y=some a):X.env.cells.lookup y=some a:=by have q:=all_eq_true.mp c.hk _ (PySem.mem_of_lookup e);rw[<- (c.F.mem y (by simpa using q)).2];exact e
theorem BZ (c:CpOk X xs fx fr scope cl iter)(I:Inv X pins Z H1 s3)(ffp:∀b∈fp,FpOk X pins H1 b)(flt:∀b∈fp,b < s3.heap.objs.size):(compCx X (xs++fx) scope cl s3 H1 fp).Ok where
 mod:=I.ok.mod
 kind:=c.hkind
 glob:=I.ok.glob
 blt:=I.ok.blt
 above:=Nat.le_refl _
 inj:=λy z a h1 h2=>I.ok.inj y z a (c.clo h1) (c.clo h2)
 has:=λy h=>by
  have h:(relabel scope X.env).names.lookup y=some .cell\/(relabel scope X.env).names.lookup y=some .free:=h;have key:y∈fx:=by rcases h with h|h <;> have q:=all_eq_true.mp c.hfx _ (PySem.mem_of_lookup h) <;> simpa using q
  obtain⟨k1,k2⟩:=c.F.mem y key;obtain⟨a,e⟩:=I.ok.has y (.inl k1);exact⟨a,k2.trans e⟩
 cab:=λy c h=>by cases (show false=true from h)
 hd:=I.ok.hd
 frames:=I.ok.frames
 stk:=.inl rfl
 exf:=λb hb=>⟨Nat.ne_of_lt (flt b hb),λy a e=>(ffp b hb).2.2.2.2.1 y a (c.clo e)⟩
 bs:=I.bs
 bsz:=Nat.le_trans I.ok.bsz I.sz
 noex:=λb o e hb=>by
  rcases (ffp b hb).2.2.2.1 with z|z
  .exact I.ok.noex b o e z
  .exact absurd (Nat.lt_of_lt_of_le (Heap.lt_size (I.ok.bs b o e).1) z) (Nat.lt_irrefl _)
 exfs:=λb hb z=>by
  rcases mem_cons.mp (I.stkSub b z) with q|q
  .exact (ffp b hb).2.1 q
  .exact (ffp b hb).2.2.1 q
 funs:=I.stack
 frf:=I.stkFree
theorem C0 (c:CpOk X xs fx fr scope cl iter)(I:Inv X pins Z H1 s3)(ffp:∀b∈fp,FpOk X pins H1 b)(flt:∀b∈fp,b < s3.heap.objs.size){h1:Heap}{t:Nat}{m:Str->Option Value}(hn:h1.Ns s3.heap.objs.size m)
  (keep:∀b u,s3.heap.get? b=some u->h1.get? b=some u):Inv (compCx X (xs++fx) scope cl s3 H1 fp) [] (xs.map (λ_=>none)++frV Z fr) H1 {s3 with heap:=h1,toks:=t}:=by
 refine⟨BZ c I ffp flt,rfl,I.bare,Un.kept keep,⟨m,hn,λi y v e1 e2 e3=>?_⟩,λy a e=>?_,I.hok.fresh (Nat.le_refl _),λy a e=>I.freeC y a (c.clo e),λp hp=>absurd (show p∈([]:List (Addr×Obj)) from hp) (by simp),I.hok.kept keep,?_⟩
 .by_cases hi:i < xs.length
  .rw[List.getElem?_append_left (by simpa using hi)] at e2;simp[List.getElem?_map] at e2
  .have e1:(xs++fx)[i]?=some y:=e1;rw[List.getElem?_append_right (by lia)] at e1;rw[List.getElem?_append_right (by simp;lia),length_map] at e2;obtain⟨i0,k1,k2,k3,k4,k5⟩:=c.F.at (Z:=Z) _ y v e1 e2;obtain⟨m0,ld,dl⟩:=I.loc;obtain⟨u,r,l⟩:=dl i0 y v k1 k2 (.inr (.inl k3));refine⟨u,r,?_⟩;rcases l with⟨z,_⟩|⟨_,a,e,o,ho,hd⟩
   .rw[k3] at z;cases z
   .exact .inr ⟨.inl k4,a,k5.trans e,o,keep a o ho,hd⟩
 .obtain⟨v,o,ho,hd⟩:=I.cell y a (c.clo e);exact⟨v,o,keep a o ho,hd⟩
 .show (xs.map (λ_=>none)++frV Z fr).length=(xs++fx).length;simp[frV,c.F.len]
end
def CompG (J:It)(p:Addr)(g:TG)(k:Nat)(fv:St)(tt:TT)(te:TE)(Q:VK)(H1:Hp):Prop:=
 ∃W:Nat->Nat->List V->Hp->Prop,(∃m,W 0 m [] (upd H1 p (.lst [])))/\∀i m ys H2,W i m ys H2->H2 p=some (.lst ys)/\
  ((J.stop i H2/\Q (.ref p) H2)\/(J.go i H2/\ys.length < sizeLine/\∀z H3,J.yld i H2 z H3->∀os:St,os.length=k->g z (os++fv) H3 λZ' H'=>∃os':St,os'.length=k/\Z'=os'++fv/\tt Z' H' λb H4=>
   if b=true then te Z' H4 λy H5=>H5 p=some (.lst ys)/\∃m',m' < m/\W (i+1) m' (ys++[y]) (upd H5 p (.lst (ys++[y])))
   else ∃m',m' < m/\W (i+1) m' ys H4))
section
variable {C:It->Addr->St->TT->TE->VK->Hp->Prop}{X:Cx}{tg elt iter:Expr}{pos:Pos}{ifs:List Expr}{scope:Scope}{cl:List (Str×Addr)}{xs fx:List Str}{fr:Tq}{wi:TI}{tt:TT}{te:TE}{g:TG}
theorem C1 {pins:List (Addr×Obj)}{Z:St}{H3:Hp}{s3:Shared}{it p:Addr}{fp:List Addr}{tn:Nat->Heap->Prop}{J:It}{Q:VK}{W:Nat->Nat->List V->Hp->Prop}{m0 t:Nat}{h₁:Heap}{m:Str->Option Value}{RR:Result->Shared->Prop}
  (c:CpOk X xs fx fr scope cl iter) (hg:∀s H fp,PG (compCx X (xs++fx) scope cl s H fp) tg g) (ht:∀s H fp,PF (compCx X (xs++fx) scope cl s H fp) ifs tt) (he:∀s H fp,PE (compCx X (xs++fx) scope cl s H fp) elt te)
  (I3:Inv X pins Z H3 s3) (T:Turn X.prog X.w X.K tg J fp it tn) (st3:tn 0 s3.heap) (ffp:∀b∈fp,FpOk X pins H3 b) (flt3:∀b∈fp,b < s3.heap.objs.size)
  (w0:W 0 m0 [] H3) (turn:∀i m ys H2,W i m ys H2->H2 p=some (.lst ys)/\
   ((J.stop i H2/\Q (.ref p) H2)\/(J.go i H2/\ys.length < sizeLine/\∀z H3,J.yld i H2 z H3->∀os:St,os.length=xs.length->g z (os++frV Z fr) H3 λZ' H'=>∃os':St,os'.length=xs.length/\Z'=os'++frV Z fr/\tt Z' H' λb H4=>
    if b=true then te Z' H4 λy H5=>H5 p=some (.lst ys)/\∃m',m' < m/\W (i+1) m' (ys++[y]) (upd H5 p (.lst (ys++[y])))
    else ∃m',m' < m/\W (i+1) m' ys H4)))
  (hns:h₁.Ns s3.heap.objs.size m) (keep1:∀b u,s3.heap.get? b=some u->h₁.get? b=some u)
  (fin:∀s6 H5 Z',Inv (compCx X (xs++fx) scope cl s3 H3 fp) [] Z' H5 s6->Q (.ref p) H5->RR (.ok .next) s6) :
  codeAny (model X.prog X.w) X.A (.compStart (.ListComp elt [⟨tg,iter,ifs,0⟩] scope pos) 0 (.ref it) (.ref p) (compEnvC scope cl s3.heap.objs.size X.env)) RR {s3 with heap:=h₁,toks:=t}:=by
 have I4:=C0 (t:=t) c I3 ffp flt3 hns keep1;have Fa:tn 0 h₁:=T.keep _ _ _ st3 λb hb o e=>keep1 b o e;have Fk:∀b∈fp,H3 b=none:=λb hb=>(ffp b hb).1;have BT:(compCx X (xs++fx) scope cl s3 H3 fp).calm=true:=c.hc;have ld:∀{H':Hp},(∀b∈fp,H' b=none)->∀b∈fp,FpOk (compCx X (xs++fx) scope cl s3 H3 fp) [] H' b:=λ{H'} hn b hb=>by obtain⟨f0,f1,f2,f3,f4,f5⟩:=ffp b hb;exact⟨hn b hb,Nat.ne_of_lt (flt3 b hb),I4.ok.exfs b hb,.inl hb,λy a e=>f4 y a (c.clo e),λq hq=>absurd (show q∈([]:List (Addr×Obj)) from hq) (by simp)⟩
 have mt:codeAny (model X.prog X.w) X.A (.compLoop (.ListComp elt [⟨tg,iter,ifs,0⟩] scope pos) 0 (.ref it) (.ref p) (compEnvC scope cl s3.heap.objs.size X.env)) RR {s3 with heap:=h₁,toks:=t}:=by
  refine wD (λn s'=>∃i ys H' os,os.length=xs.length/\Inv (compCx X (xs++fx) scope cl s3 H3 fp) [] (os++frV Z fr) H' s'/\tn i s'.heap/\(∀b∈fp,H' b=none)/\W i n ys H') ?_ m0 ⟨0,[],_,_,length_map _,I4,Fa,Fk,w0⟩;rintro n s5 ⟨i,ys,H5,os,ho,I5,EZ,Fc,w5⟩;obtain⟨Fo,Fm⟩:=turn i n ys H5 w5;rcases Fm with⟨stop,qn⟩|⟨go,EY,step⟩
  .refine thn (T.done (compCx X (xs++fx) scope cl s3 H3 fp) rfl rfl rfl BT i [] s5 _ H5 _ I5 (ld Fc) EZ stop) λr s6 W'=>?_;obtain⟨hr,I6⟩:=W';subst hr;exact fin s6 H5 _ I6 qn
  .refine thn (T.item (compCx X (xs++fx) scope cl s3 H3 fp) rfl rfl rfl BT i [] s5 _ H5 _ I5 (ld Fc) EZ go) λr s6 W'=>?_;obtain⟨u,hr,h6⟩:=W';subst hr;refine thn h6 λ_ s7 W'=>?_;obtain⟨y7,H7,I7,r7,Fe,EW,Fj⟩:=W';have I7':=I7.pinned (ld Fj) (T.obj _ _ EW);have dl:∀{Z':St}{H':Hp}{s':Shared},Inv (compCx X (xs++fx) scope cl s3 H3 fp) ([]++pinsAt fp s7.heap) Z' H' s'->tn (i+1) s'.heap/\∀b∈fp,H' b=none:=λ{Z' H' s'} I'=>by
    refine⟨T.keep _ _ _ EW λb hb o e=>(I'.pin (b,o) (mem_append_right _ (mem_append_right _ (dC hb e)))).1,λb hb=>?_⟩;obtain⟨o,e,d⟩:=T.obj _ _ EW b hb;exact (I'.pin (b,o) (mem_append_right _ (mem_append_right _ (dC hb e)))).2.1
   refine thn (hg s3 H3 fp _ s7 _ H7 y7 u _ I7' r7 (step y7 _ Fe os ho)) λ_ s8 W'=>?_;obtain⟨Z8,H8,I8,os',Fb,e8,q8⟩:=W';subst e8;refine thn (ht s3 H3 fp _ s8 _ _ _ I8 q8) λb s9 W'=>?_;obtain⟨H9,I9,q9⟩:=W';cases b with
   |false=>rw[if_neg Bool.false_ne_true] at q9 ⊢;obtain⟨m',hm,w9⟩:=q9;exact⟨m',hm,i+1,ys,H9,os',Fb,I9.unpinned,(dl I9).1,(dl I9).2,w9⟩
   |true=>rw[if_pos rfl] at q9 ⊢;refine thn (he s3 H3 fp _ s9 _ H9 _ I9 q9) λFg Fh W'=>?_;obtain⟨Cl,H10,I10,Fi,EX,m',hm,Ff⟩:=W';refine thn (cI _ Fh _ H10 (.ref p) [Cl] (.ref p) [Fg] (λ_ H'=>H'=upd H10 p (.lst (ys++[Cl]))) I10 rfl (.cons Fi .nil) ⟨p,ys,Cl,rfl,rfl,EX,EY,rfl⟩) λ_ Fn W'=>?_;obtain⟨_,H11,I11,_,Fl⟩:=W';subst Fl;exact⟨m',hm,i+1,ys++[Cl],_,os',Fb,I11.unpinned,(dl I11).1,(dl I11).2,Ff⟩
 exact codeAny_compStart_list mt (T.self _ 0 _ _ _ Fa mt)
theorem nS {use:Option (Value->Sem Unit)}{pins:List (Addr×Obj)}{Z:St}{H:Hp}{s:Shared}{Q:VK}{R:Value->Shared->Prop}{q:Pos}
  (c:CpOk X xs fx fr scope cl iter) (hi:PI X tg iter wi) (hg:∀s H fp,PG (compCx X (xs++fx) scope cl s H fp) tg g) (ht:∀s H fp,PF (compCx X (xs++fx) scope cl s H fp) ifs tt) (he:∀s H fp,PE (compCx X (xs++fx) scope cl s H fp) elt te)
  (hC:∀{J p fv Q H1},C J p fv tt te Q H1->CompG J p g xs.length fv tt te Q H1) (I:Inv X pins Z H s) (h:wi Z H λJ H1=>∀p,H1 p=none->C J p (frV Z fr) tt te Q H1)
  (fin:∀(p:Addr) (s3:Shared) (H3:Hp) (fp:List Addr) (s6:Shared) (H5:Hp) (Z':St),Inv X pins Z H3 s3->(∀b∈fp,FpOk X pins H3 b)->Inv (compCx X (xs++fx) scope cl s3 H3 fp) [] Z' H5 s6->Q (.ref p) H5 ->
   compPost (model X.prog X.w) X.A X.xe use R (.ref p) s3.heap.objs.size (.ok .next) s6) :
  wpAny (model X.prog X.w) X.A (comprehension (.ListComp elt [⟨tg,iter,ifs,0⟩] scope pos) scope X.env q (newList []) false (eval iter X.env) use) R X.xe s:=by
 refine wpAny_comprehension_free rfl c.hs c.hclos c.hkind c.hnames ?_;refine thn (hi pins s Z H _ I h) λv s1 h1=>thn h1 λFb s2 h2=>?_;obtain⟨it,fp,tn,J,H2,e,I2,T,EX,f2,q2⟩:=h2;subst e;obtain⟨W,⟨m0,w0⟩,Cl⟩:=hC (q2 _ (I2.hok.fresh (Nat.le_refl _)));have flt:∀b∈fp,b < s2.heap.objs.size:=λb hb=>by obtain⟨o,e,_⟩:=T.obj _ _ EX b hb;exact Heap.lt_size e
 refine wpAny_newObj_type (wpAny_newFunctionEnv c.hcell (by intro y hy;simp at hy) (λh₁ ld dl=>?_) c.hkind);dsimp only at ld dl ⊢;obtain⟨HH,BT⟩:∃HH,HH=s2.heap.push {cls:=.type "list",dict:=none,data:=.seq ([]:List Value).toArray}:=⟨_,rfl⟩;have mt:∀b u,s2.heap.get? b=some u->HH.get? b=some u:=λb u e=>BT▸Heap.get?_push_of_some _ e;have EW:HH.get? s2.heap.objs.size=some {cls:=.type "list",dict:=none,data:=.seq ([]:List Value).toArray}:=BT▸Heap.get?_push_size _ rfl;have EZ:HH.objs.size=s2.heap.objs.size+1:=BT▸Heap.size_push _ _;rw[<- BT] at ld dl ⊢;have I3:Inv X pins Z (upd H2 s2.heap.objs.size (.lst [])) {s2 with heap:=HH,toks:=s2.toks}:=
  I2.laid (t':=s2.toks) (o:=.lst []) mt (Nat.le_refl _) ⟨Nat.zero_le _,[],0,.nil,EW⟩
 have EY:∀b∈fp,FpOk X pins (upd H2 s2.heap.objs.size (.lst [])) b:=λb hb=>by obtain⟨f0,Fa⟩:=f2 b hb;exact⟨by rw[aE (Nat.ne_of_lt (flt b hb))];exact f0,Fa⟩
 exact C1 (s3:={ s2 with heap:=HH,toks:=s2.toks}) c hg ht he I3 T (T.keep _ _ _ EX λb hb o e=>mt b o e) EY (λb hb=>by show b < HH.objs.size;rw[EZ];exact Nat.lt_succ_of_lt (flt b hb)) w0 Cl ld
  (λb u e=>dl.extBut b u (Nat.ne_of_lt (Heap.lt_size e)) (Heap.get?_push_of_some _ e)) λs6 H5 Z' I6 qn=>fin _ _ _ fp s6 H5 Z' I3 EY I6 qn
theorem nT (c:CpOk X xs fx fr scope cl iter)(hi:PI X tg iter wi)(hg:∀s H fp,PG (compCx X (xs++fx) scope cl s H fp) tg g)(ht:∀s H fp,PF (compCx X (xs++fx) scope cl s H fp) ifs tt)(he:∀s H fp,PE (compCx X (xs++fx) scope cl s H fp) elt te)
  (hC:∀{J p fv Q H1},C J p fv tt te Q H1->CompG J p g xs.length fv tt te Q H1) :
  PE X (.ListComp elt [⟨tg,iter,ifs,0⟩] scope pos) λZ H Q=>wi Z H λJ H1=>∀p,H1 p=none->C J p (frV Z fr) tt te Q H1:=by
 intro pins s Z H Q I h;rw[eval_ListComp];exact nS c hi hg ht he hC I h λp s3 H3 fp s6 H5 Z' I3 ffp I6 qn=>by obtain⟨m,hn6,_⟩:=id I6.loc;exact⟨m,hn6,λh' sb=>⟨.ref _,H5,jx I3 I6 ffp sb,rfl,qn⟩⟩
theorem nU {i:Nat}{y:Str}{py spos:Pos}(hN:X.N.Nodup)(hiN:X.N[i]?=some y)(hy:X.env.scope.names.lookup y=some .local)
  (c:CpOk X xs fx fr scope cl iter) (hi:PI X tg iter wi) (hg:∀s H fp,PG (compCx X (xs++fx) scope cl s H fp) tg g) (ht:∀s H fp,PF (compCx X (xs++fx) scope cl s H fp) ifs tt) (he:∀s H fp,PE (compCx X (xs++fx) scope cl s H fp) elt te)
  (hC:∀{J p fv Q H1},C J p fv tt te Q H1->CompG J p g xs.length fv tt te Q H1) (hsw:swapsWith (.ListComp elt [⟨tg,iter,ifs,0⟩] scope pos) (some (.Name y py)) spos.line X.env=pure true) :
  PS X (.Assign [.Name y py] (.ListComp elt [⟨tg,iter,ifs,0⟩] scope pos) spos) (tAsg (λZ H Q=>wi Z H λJ H1=>∀p,H1 p=none->C J p (frV Z fr) tt te Q H1) (gName i)):=by
 intro dl s Z H D I h;rw[exec_Assign_Name_used _ _ _ _ hsw];refine wpAny_bind (wpAny_standAt (wpAny_bind ?_));show wpAny _ X.A (do let _ <- comprehension (.ListComp elt [⟨tg,iter,ifs,0⟩] scope pos) scope X.env _ (newList []) false (eval iter X.env) (some (assign (.Name y py) X.env))) _ _ s;refine wpAny_bind (wpAny_mono (nS (R:=λ_ s'=>SP X dl D .next s') c hi hg ht he hC I h λp s3 H3 fp s6 H5 Z' I3 EW I6 qn=>?_) (λ_ s' hq=>wpAny_pure (wpAny_pure hq)) λ_ _ e=>e);have nC:H5 s3.heap.objs.size=none:=I6.free;have I7:Inv X dl Z H5 s6:=jx (h':=s6.heap) I3 I6 EW ⟨rfl,λ_ _=>rfl⟩;obtain⟨f0,f1,f2,f3,f4,f5⟩:=I3.fpOk (H':=H5) (b:=s3.heap.objs.size) (Nat.le_refl _) nC;obtain⟨m,Cl,_⟩:=id I6.loc;show wpAny _ X.A (assign (.Name y py) X.env (.ref _)) _ _ s6;refine wpAny_assign_Name (jE I7 hN hiN (.inl hy) (v:=.ref _) rfl (λs8 I8 ld=>?_) (.inr hy));obtain⟨a,sb,ha⟩:=ld;have BT:s3.heap.objs.size≠a:=by
  rcases ha with rfl|ha
  .exact f1
  .exact λz=>f4 y a ha z.symm
 refine⟨m,Cl.sameBut sb BT,λh' mt=>?_⟩;exact⟨_,H5,I8.turned (t':=s8.toks) (it:=s3.heap.objs.size) (λb o hb e=>mt.extBut b o hb e) f0 f1 f3 f4 f5,qn⟩
end
theorem CompI.g {J:It}{p:Addr}{fv:St}{tt:TT}{te:TE}{Q:VK}{H1:Hp}(h:CompI J p fv tt te Q H1):CompG J p (gName 0) 1 fv tt te Q H1:=by obtain⟨W,h0,h⟩:=h;refine⟨W,h0,λi m ys H2 hw=>⟨(h i m ys H2 hw).1,(h i m ys H2 hw).2.imp_right λ⟨a,b,k⟩=>⟨a,b,λz H3 y os ho=>?_⟩⟩⟩;obtain⟨o,rfl⟩:=List.length_eq_one_iff.mp ho;exact⟨[some z],rfl,rfl,k z H3 y⟩
section
variable {X:Cx}{elt iter:Expr}{x y:Str}{px py pos spos:Pos}{ifs:List Expr}{scope:Scope}{cl:List (Str×Addr)}{fx:List Str}{fr:Tq}{wi:TI}{tt:TT}{te:TE}
theorem nV (c:CpOk X [x] fx fr scope cl iter)(s:Shared)(H:Hp)(fp:List Addr):PG (compCx X ([x]++fx) scope cl s H fp) (.Name x px) (gName 0):=
 have h:(relabel scope X.env).names.lookup x=some .local:=lookup_relabel_local (c.hx x (.head _))
 cA (i:=0) c.hnd rfl (.inl h) (.inr h)
theorem cmp1 (fx:List Str)(fr:Tq)(hi:PI X (.Name x px) iter wi)(ht:∀{s H fp},PF (compCx X ([x]++fx) scope cl s H fp) ifs tt)(he:∀{s H fp},PE (compCx X ([x]++fx) scope cl s H fp) elt te)
  (c:CpOk X [x] fx fr scope cl iter:=by exact⟨rfl,rfl,by fail "k",rfl,by fail "k",by fail "k",by fail "k",rfl,by repeat' first|exact .nil|refine .cons rfl rfl rfl rfl ?_,rfl,λ_=>rfl⟩):PE X (.ListComp elt [⟨.Name x px,iter,ifs,0⟩] scope pos) (tComp wi fr tt te):=nT c hi (nV c) (λ_ _ _=>ht) (λ_ _ _=>he) λh=>h.g
theorem cmpS (fx:List Str)(fr:Tq)(i:Nat)(hN:X.N.Nodup)(hi:PI X (.Name x px) iter wi)(ht:∀{s H fp},PF (compCx X ([x]++fx) scope cl s H fp) ifs tt)(he:∀{s H fp},PE (compCx X ([x]++fx) scope cl s H fp) elt te)
  (hiN:X.N[i]?=some y:=by rfl) (hy:X.env.scope.names.lookup y=some .local:=by rfl) (c:CpOk X [x] fx fr scope cl iter:=by exact⟨rfl,rfl,by fail "k",rfl,by fail "k",by fail "k",by fail "k",rfl,by repeat' first|exact .nil|refine .cons rfl rfl rfl rfl ?_,rfl,λ_=>rfl⟩) (hsw:swapsWith (.ListComp elt [⟨.Name x px,iter,ifs,0⟩] scope pos) (some (.Name y py)) spos.line X.env=pure true:=by rfl) :
  PS X (.Assign [.Name y py] (.ListComp elt [⟨.Name x px,iter,ifs,0⟩] scope pos) spos) (tAsg (tComp wi fr tt te) (gName i)):=nU hN hiN hy c hi (nV c) (λ_ _ _=>ht) (λ_ _ _=>he) (λh=>h.g) hsw
end
theorem CompI2.g {K:W.Frag}{J:It}{p:Addr}{fv:St}{tt:TT}{te:TE}{Q:VK}{H1:Hp}(h:CompI2 K J p fv tt te Q H1):CompG J p (gTup K 2 (gCons (gName 0) (gCons (gName 1) gNil))) 2 fv tt te Q H1:=by obtain⟨W,h0,h⟩:=h;refine⟨W,h0,λi m ys H2 hw=>⟨(h i m ys H2 hw).1,(h i m ys H2 hw).2.imp_right λ⟨a,b,k⟩=>⟨a,b,λz H3 y os ho=>?_⟩⟩⟩;obtain⟨o,l,rfl⟩:=List.exists_cons_of_length_eq_add_one ho;obtain⟨o2,rfl⟩:=List.length_eq_one_iff.mp (Nat.succ.inj ho);obtain⟨a,u,v,rfl,q,k⟩:=k z H3 y;exact⟨a,[u,v],rfl,q,rfl,u,[v],rfl,v,[],rfl,rfl,[some u,some v],rfl,rfl,k⟩
section
variable {X:Cx}{K:W.Frag}{elt iter:Expr}{x x2 y:Str}{px px2 ptx py pos spos:Pos}{kx:Nat}{ifs:List Expr}{scope:Scope}{cl:List (Str×Addr)}{fx:List Str}{fr:Tq}{wi:TI}{tt:TT}{te:TE}
theorem nW (h:X.K=K)(c:CpOk X [x,x2] fx fr scope cl iter)(s:Shared)(H:Hp)(fp:List Addr):PG (compCx X ([x,x2]++fx) scope cl s H fp) (.Tuple [.Name x px,.Name x2 px2] kx ptx) (gTup K 2 (gCons (gName 0) (gCons (gName 1) gNil))):=
 have a:(relabel scope X.env).names.lookup x=some .local:=lookup_relabel_local (c.hx x (.head _));have b:(relabel scope X.env).names.lookup x2=some .local:=lookup_relabel_local (c.hx x2 (.tail _ (.head _)))
 h▸jJ c.hc (af (cA (i:=0) c.hnd rfl (.inl a) (.inr a)) (af (cA (i:=1) c.hnd rfl (.inl b) (.inr b)) bS))
theorem cmp2 (K:W.Frag)(fx:List Str)(fr:Tq)(hi:PI X (.Tuple [.Name x px,.Name x2 px2] kx ptx) iter wi)(ht:∀{s H fp},PF (compCx X ([x,x2]++fx) scope cl s H fp) ifs tt)(he:∀{s H fp},PE (compCx X ([x,x2]++fx) scope cl s H fp) elt te)
  (h:X.K=K:=by rfl) (c:CpOk X [x,x2] fx fr scope cl iter:=by exact⟨rfl,rfl,by fail "k",rfl,by fail "k",by fail "k",by fail "k",rfl,by repeat' first|exact .nil|refine .cons rfl rfl rfl rfl ?_,rfl,λ_=>rfl⟩):PE X (.ListComp elt [⟨.Tuple [.Name x px,.Name x2 px2] kx ptx,iter,ifs,0⟩] scope pos) (tComp2 K wi fr tt te):=nT c hi (nW h c) (λ_ _ _=>ht) (λ_ _ _=>he) λh=>h.g
theorem cmpS2 (K:W.Frag)(fx:List Str)(fr:Tq)(i:Nat)(hN:X.N.Nodup)(hi:PI X (.Tuple [.Name x px,.Name x2 px2] kx ptx) iter wi)(ht:∀{s H fp},PF (compCx X ([x,x2]++fx) scope cl s H fp) ifs tt)(he:∀{s H fp},PE (compCx X ([x,x2]++fx) scope cl s H fp) elt te)
  (hiN:X.N[i]?=some y:=by rfl) (hy:X.env.scope.names.lookup y=some .local:=by rfl) (h:X.K=K:=by rfl) (c:CpOk X [x,x2] fx fr scope cl iter:=by exact⟨rfl,rfl,by fail "k",rfl,by fail "k",by fail "k",by fail "k",rfl,by repeat' first|exact .nil|refine .cons rfl rfl rfl rfl ?_,rfl,λ_=>rfl⟩) (hsw:swapsWith (.ListComp elt [⟨.Tuple [.Name x px,.Name x2 px2] kx ptx,iter,ifs,0⟩] scope pos) (some (.Name y py)) spos.line X.env=pure true:=by rfl) :
  PS X (.Assign [.Name y py] (.ListComp elt [⟨.Tuple [.Name x px,.Name x2 px2] kx ptx,iter,ifs,0⟩] scope pos) spos) (tAsg (tComp2 K wi fr tt te) (gName i)):=nU hN hiN hy c hi (nW h c) (λ_ _ _=>ht) (λ_ _ _=>he) (λh=>h.g) hsw
end
section
variable {X:Cx}{a b e:Expr}{ta tb te:TE}{pos pos':Pos}
theorem px (K:W.Frag)(ha:PE X a ta)(hb:PE X b tb)(h:X.K=K:=by rfl)(hs:PlainIx b:=by exact λ_ _=>rfl):PE X (.Subscript a b pos) (tOp (rIx K) ta tb):=jk (jz h) ha hb hs
theorem sx {x:Str}(i:Nat)(hN:X.N.Nodup)(he:PE X e te)(hi:X.N[i]?=some x:=by rfl)(hx:Loc X.env.scope x:=by exact .inl rfl)(hs:swapsWith e (some (.Name x pos')) pos.line X.env=pure false:=by rfl)(hf:X.fn x=true\/X.env.scope.names.lookup x=some .local:=by first|exact .inl rfl|exact .inr rfl) :
  PS X (.Assign [.Name x pos'] e pos) (tAsg te (gName i)):=fT hN hi hx he hs hf
theorem pcm {op:CmpOp}{r:R2}(ho:OpR X (compareOp op) r)(ha:PE X a ta)(hb:PE X b tb)(hm:behindInMarks op b=false:=by exact nomark _):PE X (.Compare a [op] [b] pos) (tOp r ta tb):=dE ho ha hb hm
theorem ptm {op:CmpOp}{r:R2}(ho:OpR X (compareOp op) r)(ha:PE X a ta)(hb:PE X b tb)(hm:behindInMarks op b=false:=by exact nomark _):PT X (.Compare a [op] [b] pos) (tTest (tOp r ta tb)):=dF ho ha hb hm
theorem pgn {x:Str}(i:Nat)(hN:X.N.Nodup)(hi:X.N[i]?=some x:=by rfl)(hx:Loc X.env.scope x:=by exact .inl rfl)(hf:X.fn x=true\/X.env.scope.names.lookup x=some .local:=by first|exact .inl rfl|exact .inr rfl):PG X (.Name x pos) (gName i):=cA hN hi hx hf
end
section
variable {K:W.Frag}{H:Hp}{a:Addr}{xs:List V}{v:V}{R:V->Prop}
end
section
variable {X:Cx}
def rCatA (K:W.Frag):R2:=λx y H Q=>∃a b xs zs,x=.ref a/\y=.ref b/\SqL K H a xs/\SqL K H b zs/\xs.length+zs.length<=sizeLine/\∀p,H p=none->Q (.ref p) (upd H p (.lst (xs++zs)))
theorem C2 {K:W.Frag}{a b:Addr}{H:Hp}{Q:VK}:rCatA K (.ref a) (.ref b) H Q↔∃xs zs,SqL K H a xs/\SqL K H b zs/\xs.length+zs.length<=sizeLine/\∀p,H p=none->Q (.ref p) (upd H p (.lst (xs++zs))):=
 ⟨λ⟨_,_,xs,zs,e1,e2,h⟩=>by cases e1;cases e2;exact⟨xs,zs,h⟩,λ⟨xs,zs,h⟩=>⟨a,b,xs,zs,rfl,rfl,h⟩⟩
theorem nX {K:W.Frag}(hk:X.K=K):OpR X (binaryOp .Add) (rCatA K):=by subst hk;intro EY s Z H x y v u Q I rx ry h;obtain⟨a,b,xs,zs,rfl,rfl,ha,hb,hz,q⟩:=h;cases rx;cases ry;obtain⟨ld,r1,⟨⟨cls,dd,Fa,sl⟩,n,ho,hc,_,hd⟩,_⟩:=I.list ha;obtain⟨dl,r2,⟨⟨Fb,EZ,EW,EX⟩,n2,mt,Cl,_,BT⟩,_⟩:=I.list hb;simp only at hc hd Cl BT;subst hc hd Cl BT;have l1:=r1.length;have l2:=r2.length;refine concat_meets ⟨_,ho,rfl⟩ ⟨_,mt,rfl⟩ noFill_list_add seq_list_add PySem.F.slot_list_add PySem.F.entry_list_add (PySem.F.args_list_add_2 _ _) (list_addW a b ld.toArray dl.toArray n n2 dd EZ sl EX (by rw[size_toArray,size_toArray];lia)) ⟨ho,mt,?_⟩;rw[show ld.toArray++dl.toArray=(ld++dl).toArray by simp];exact⟨.ref _,_,I.lnew (t':=s.toks) (r1.append r2) (by rw[length_append];lia),rfl,q _ I.fresh⟩
end
end L2
namespace L2
open PySem
theorem lnT {A B C:Prop}(f:A->B->C)(b:B)(a:A:=by intro _ _ _ _ h;cases h;subst_vars;rfl):C:=f a b
end L2
namespace L2
inductive Ex2 {A B:Type}(p:A->B->Prop):Prop|mk (a:A) (b:B) (h:p a b):Ex2 p
inductive Ex3 {A B C:Type}(p:A->B->C->Prop):Prop|mk (a:A) (b:B) (c:C) (h:p a b c):Ex3 p
inductive Ex4 {A B C D:Type}(p:A->B->C->D->Prop):Prop|mk (a:A) (b:B) (c:C) (d:D) (h:p a b c d):Ex4 p
inductive Ex5 {A B C D E:Type}(p:A->B->C->D->E->Prop):Prop|mk (a:A) (b:B) (c:C) (d:D) (e:E) (h:p a b c d e):Ex5 p
inductive Ex6 {A B C D E F:Type}(p:A->B->C->D->E->F->Prop):Prop|mk (a:A) (b:B) (c:C) (d:D) (e:E) (f:F) (h:p a b c d e f):Ex6 p
inductive Ex7 {A B C D E F G:Type}(p:A->B->C->D->E->F->G->Prop):Prop|mk (a:A) (b:B) (c:C) (d:D) (e:E) (f:F) (g:G) (h:p a b c d e f g):Ex7 p
inductive Ex8 {A B C D E F G H:Type}(p:A->B->C->D->E->F->G->H->Prop):Prop|mk (a:A) (b:B) (c:C) (d:D) (e:E) (f:F) (g:G) (h:H) (h:p a b c d e f g h):Ex8 p
inductive Ex9 {A B C D E F G H I:Type}(p:A->B->C->D->E->F->G->H->I->Prop):Prop|mk (a:A) (b:B) (c:C) (d:D) (e:E) (f:F) (g:G) (h:H) (i:I) (h:p a b c d e f g h i):Ex9 p
inductive Ex10 {A B C D E F G H I J:Type}(p:A->B->C->D->E->F->G->H->I->J->Prop):Prop|mk (a:A) (b:B) (c:C) (d:D) (e:E) (f:F) (g:G) (h:H) (i:I) (j:J) (h:p a b c d e f g h i j):Ex10 p
inductive Ex11 {A B C D E F G H I J K:Type}(p:A->B->C->D->E->F->G->H->I->J->K->Prop):Prop|mk (a:A) (b:B) (c:C) (d:D) (e:E) (f:F) (g:G) (h:H) (i:I) (j:J) (k:K) (h:p a b c d e f g h i j k):Ex11 p
inductive Ex12 {A B C D E F G H I J K L:Type}(p:A->B->C->D->E->F->G->H->I->J->K->L->Prop):Prop|mk (a:A) (b:B) (c:C) (d:D) (e:E) (f:F) (g:G) (h:H) (i:I) (j:J) (k:K) (l:L) (h:p a b c d e f g h i j k l):Ex12 p
end L2
namespace L2
open PySem PySem.Spec PyProof.Rows
@[reducible] noncomputable def nth:List Str->Nat->Option Str
 |[],_=>none
 |x::_,0=>some x
 |_::l,n+1=>nth l n
theorem eJ {x:Str}:∀{N:List Str}{i:Nat},nth N i=some x->N[i]?=some x
 |[],_,h=>by cases h
 |_::_,0,h=>h
 |_::l,n+1,h=>eJ (N:=l) (i:=n) h
def Cn (mg:Str->Option Value)(x:Str)(v:V):Prop:=∃u,mg x=some u/\RelV v u
theorem C3 {mg:Str->Option Value}{x:Str}{i:Int}{t:Tok}(a:mg x=some (.int i t)):Cn mg x (.int i):=⟨_,a,_,rfl⟩
theorem C4 {mg:Str->Option Value}{x s:Str}{t:Tok}(a:mg x=some (.str s t)):Cn mg x (.str s):=⟨_,a,_,rfl⟩
structure BltN (mg:Str->Option Value)(x:Str)(u:Value):Prop where
 n:mg x=none
 b:bootBuiltins x=some u
inductive Hn (a b:Nat):Prop|mk:Hn a b
theorem hint (a b:Nat):Hn a b:=.mk
theorem hintE (a:Nat){p:Prop}(_:Hn a 0)(h:p):p:=h
noncomputable def rowS:Stmt->Nat
 |.Assign _ _ p|.If _ _ _ p|.For _ _ _ _ p|.While _ _ _ p|.Expr _ p|.Return _ p|.Raise _ _ p=>p.line
 |_=>0
section
variable {X:Cx}{st:Stmt}{rest:List Stmt}{t u:TS}{N:List Str}{i:Nat}{x:Str}{p q:Pos}{e:Expr}{te:TE}{a:List Expr}{kw:List Keyword}
theorem hintC (_:Hn 0 (rowS st))(h1:PS X st t)(h2:PSs X rest u):PSs X (st::rest) (tCut t u):=aP h1 h2
theorem hintN (_:Hn 1 (rowS st)):PS X st tNever:=sh
theorem nx (i:Nat){N:List Str}{x:Str}(h:nth N i=some x:=by exact rfl):nth N i=some x:=h
theorem forT {tg l:Expr}{b:List Stmt}{tl:TE}{g:TG}(K:W.Frag)(_:Hn 11 p.line)(hl:PE X l tl)(hg:PG X tg g)(hb:PSs X b t)(h:X.K=K)(hc:X.calm=true)(hp:PassesOwn (model X.prog X.w) X.A X.env X.xe)
  (hs:∀x,foldedSetIterable l X.env x=pure x):PS X (.For tg l b [] p) (tFor (iTup K tl) g t):=bC hp hc (bE h hl) hg hb hs
theorem cB {mg:Str->Option Value}{id:String}{r:List V->Hp->VK->Prop}{es:List Expr}{ta:TA}(b:BltN mg x (.builtin id))(hc:CallR X (.builtin id) r)(ha:PA X (e::es) ta)(h:X.mg=mg)(hg:Gl X x)(hn:x ≠ "__name__")(hd:(x == ("__debug__" : Str))=false)
  (he:starEach (e::es) X.env=(false,eval e X.env)::starEach es X.env) (hp:(backTo q (starEach es X.env)).any (·.1)=false):PE X (.Call (.Name x p) (e::es) [] q) (tCB r ta):=by subst h;exact bj hc hg b.1 b.2 ha hn hd he hp
theorem cT {mg:Str->Option Value}{id:String}{r:List V->Hp->VK->Prop}{es:List Expr}{ta:TA}(b:BltN mg x (.type id))(hc:CallR X (.type id) r)(ha:PA X (e::es) ta)(h:X.mg=mg)(hg:Gl X x)(hn:x ≠ "__name__")(hd:(x == ("__debug__" : Str))=false)
  (he:starEach (e::es) X.env=(false,eval e X.env)::starEach es X.env) (hp:(backTo q (starEach es X.env)).any (·.1)=false):PE X (.Call (.Name x p) (e::es) [] q) (tCB r ta):=by subst h;exact bU hc hg b.1 b.2 ha hn hd he hp
theorem tY {mg:Str->Option Value}{id:String}(b:BltN mg x (.type id))(h:X.mg=mg)(hg:Gl X x)(hn:x ≠ "__name__")(hd:(x == ("__debug__" : Str))=false):PE X (.Name x p) (tC (.ty id)):=by subst h;exact sZ hg b.1 b.2 rfl hn hd
theorem cF {k k':Nat}{sp:Sp}{st:Stmt}{ps:List Str}{es:List Expr}{ta:TA}{f:Fd X.K X.mg x st ps}(F:FnOk X.prog X.w X.K X.mg X.base CX0 k f.a f.fd ps sp)(hr:Room k' X.A)(ha:PA X (e::es) ta)(hg:Gl X x)(hk:k<=k')(hd:(x == ("__debug__" : Str))=false)
  (he:starEach (e::es) X.env=(false,eval e X.env)::starEach es X.env) (hp:(backTo q (starEach es X.env)).any (·.1)=false):PE X (.Call (.Name x p) (e::es) [] q) (tCall sp [] E0 ta):=aY f F hr hg ha hk hd he hp
theorem pvG (h:N.Nodup)(a:nth N i=some x)(e:X.N=N)(hv:Vis X.env.scope x)(hd:(x == ("__debug__" : Str))=false)(hcd:(x == ("__classdict__" : Str))=false):PE X (.Name x p) (tVar i):=jG (by rw[e];exact eJ a) hv hd hcd
theorem sxG (h:N.Nodup)(a:nth N i=some x)(he:PE X e te)(n:X.N=N)(hx:Loc X.env.scope x)(hs:swapsWith e (some (.Name x q)) p.line X.env=pure false)(hf:X.fn x=true\/X.env.scope.names.lookup x=some .local) :
  PS X (.Assign [.Name x q] e p) (tAsg te (gName i)):=fT (n▸h) (by rw[n];exact eJ a) hx he hs hf
theorem pgG (h:N.Nodup)(a:nth N i=some x)(n:X.N=N)(hx:Loc X.env.scope x)(hf:X.fn x=true\/X.env.scope.names.lookup x=some .local):PG X (.Name x p) (gName i):=cA (n▸h) (by rw[n];exact eJ a) hx hf
theorem pxG {a b:Expr}{ta tb:TE}(K:W.Frag)(ha:PE X a ta)(hb:PE X b tb)(h:X.K=K)(hs:PlainIx b):PE X (.Subscript a b p) (tOp (rIx K) ta tb):=jk (jz h) ha hb hs
theorem glD {mg:Str->Option Value}{v:V}(c:Cn mg x v)(e:X.mg=mg)(hg:Gl X x)(hd:(x == ("__debug__" : Str))=false):PE X (.Name x p) (tC v):=let ⟨_,m,r⟩:=c;dA hg (e▸m) r hd
theorem glC {v:V}(c:Cn X.mg x v)(hg:Gl X x:=by rfl)(hd:(x == ("__debug__" : Str))=false:=by decide):PE X (.Name x p) (tC v):=glD c rfl hg hd
end
abbrev Sc (n:Nat)(N:List Str)(s:Stmt):Prop:=FnScope N (N.take n) (defScope s)
theorem lnF {P:Program}{w:World}{K:W.Frag}{mg:Str->Option Value}{base:Heap}{x:Str}{st:Stmt}{N ps:List Str}{k:Nat}{sp:Sp}{f:Fd K mg x st ps}(sc:FnScope N ps (defScope st))
  (b:∀(cdv:Value) (A:Around) (outer:List Env) (s:Shared) (H:Hp) (vs:List V) (Q:VK) (E:XK),Room k (A.deeper (PyProof.Rows.envOfC x (defScope st) s.heap.objs.size f.a cdv))->sp vs H Q E ->
   ∃t,PSs (cxOf CX0 P w K mg base N x (defScope st) f.a cdv A outer s H E).nox (defBody st) t/\t {nx:=λ_ H'=>Q .non H',rt:=Q} (start N vs) H)
  (a:∀(vs:List V) (H:Hp) (Q:VK) (E:XK),sp vs H Q E->vs.length=ps.length:=by intro _ _ _ _ h;cases h;subst_vars;rfl):f.Ok P w base (k+1) sp:=f.F.ok sc a b
end L2
namespace Wm
open PySem L2
def FrB (H0 H:Hp)(ys:List V):Prop:=∀v∈ys,∃(p:Addr) (a w:V),v=.ref p/\H p=some (.tup [a,w])/\∀q,w=.ref q->H0 q=none
theorem FrB.mono {H0 H H':Hp}{ys:List V}(s:SameT H H')(h:FrB H0 H ys):FrB H0 H' ys:=λv hv=>by obtain⟨p,a,w,e,h1,h2⟩:=h v hv;exact⟨p,a,w,e,s _ _ h1,h2⟩
theorem FrB.snoc {H0 H:Hp}{ys:List V}{p:Addr}{a w:V}(h:FrB H0 H ys)(hp:H p=some (.tup [a,w]))(hw:∀q,w=.ref q->H0 q=none):FrB H0 H (ys++[.ref p]):=λv hv=>by
 rcases mem_append.mp hv with z|z
 .exact h v z
 .exact⟨p,a,w,mem_singleton.mp z,hp,hw⟩
theorem nY {ps:List Pc}(h:∀c∈ps,c.isRest=false):LastR ps:=λi c hc hr=>by rw[h c (mem_of_getElem? hc)] at hr;cases hr
theorem C5 {ps:List Pc}{d:Pc}(h:∀c∈ps,c.isRest=false):LastR (ps++[d]):=λi c hc hr=>by
 by_cases hi:i < ps.length
 .rw[List.getElem?_append_left hi] at hc;rw[h c (mem_of_getElem? hc)] at hr;cases hr
 .have:=(List.getElem?_eq_some_iff.mp hc).1;rw[length_append,length_singleton] at this ⊢;lia
theorem C6 (c:Pc):PyData.eqv (pcD c) (pcD c)=true:=by
 have eq:∀s:Str,PyData.eqv (.str s) (.str s)=true:=λs=>by simp[PyData.eqv]
 have dl:∀(k:Str) (l:Tq),PyData.eqv (.tuple [.str k,st l]) (.tuple [.str k,st l])=true:=λk l=>bI λd hd=>by
  simp only[not_mem_nil,mem_cons,or_false] at hd;rcases hd with rfl|rfl
  .exact eq _
  .exact b7 l
 cases c with
 |part h n t=>
  refine bI λd hd=>?_;simp only[not_mem_nil,mem_cons,or_false] at hd;rcases hd with rfl|rfl|rfl|rfl
  .exact eq _
  .exact b7 _
  .exact b7 _
  .exact b7 _
 |step s=>exact dl _ s
 |num n=>exact dl _ n
 |word n=>exact dl _ n
 |gap n=>exact dl _ n
 |rest n=>exact dl _ n
noncomputable def pttD (p:List Pc×Bool):PyData:=.tuple [.tuple (p.1.map pcD),.bool p.2]
noncomputable def rwD (t:Rw):PyData:=.tuple [st t.1,pttD t.2]
theorem PtAt.isD {H:Hp}{cs:List Pc}{e:Bool}{p:Addr}(h:PtAt H cs e p):Is H (pttD (cs,e)) (.ref p):=by obtain⟨q,xs,h1,h2,h3⟩:=h;exact .tup h1 (.cons (.tup h2 h3.isT.is) (.cons (.bl _) .nil))
theorem TbV.isAll {H:Hp}{T:List Rw}{ws:List V}(h:TbV H T ws):IsAll H (T.map rwD) ws:=by
 induction h with
 |nil=>exact .nil
 |cons h _ ih=>obtain⟨a,p,e,h1,h2⟩:=h;exact .cons (by rw[e];exact .tup h1 (.cons (.str _) (.cons h2.isD .nil))) ih
def TabOk (T:List Rw):Prop:=∀t∈T,(∀x∈t.1,isSg x=true)/\PcsOk t.2.1/\LastR t.2.1/\t.2.1.length<=5
theorem cb {T:List Rw}(h:TabOk T):SeqAt.shaped (.list (T.map rwD))=true:=(layL (n:=4) λd hd=>by
 obtain⟨t,ht,rfl⟩:=mem_map.mp hd;obtain⟨h1,h2,_⟩:=h t ht;refine LayAt.tup (n:=3) λd hd=>?_;simp only[not_mem_nil,mem_cons,or_false] at hd;rcases hd with rfl|rfl
 .exact (LayAt.st h1).le (by decide)
 .refine LayAt.tup (n:=2) λd hd=>?_;simp only[not_mem_nil,mem_cons,or_false] at hd;rcases hd with rfl|rfl
  .exact m9 λc hc=>(h2.2 c hc).2
  .exact LayAt.bool.le (by decide)).shaped (by decide)
theorem nZ (T:List Rw):PyData.eqv (.list (T.map rwD)) (.list (T.map rwD))=true:=gk λd hd=>by
 obtain⟨t,_,rfl⟩:=mem_map.mp hd;refine bI λd hd=>?_;simp only[not_mem_nil,mem_cons,or_false] at hd;rcases hd with rfl|rfl
 .exact b7 _
 .refine bI λd hd=>?_;simp only[not_mem_nil,mem_cons,or_false] at hd;rcases hd with rfl|rfl
  .exact bI λd hd=>by obtain⟨c,_,rfl⟩:=mem_map.mp hd;exact C6 c
  .exact gl _
noncomputable def fitR (r e:Bool)(ss:List Tq)(t:Rw):Bool:=fitsP t.2.1 t.2.2 r ss e
theorem C7 {cs:List Pc}{m:Nat}{n:Tq}(hm:m < cs.length)(l:LastR cs):LastR (cs.take m++[.gap n]++cs.drop (m+1)):=by
 have e:cs.take m++[.gap n]++cs.drop (m+1)=cs.set m (.gap n):=by rw[List.set_eq_take_append_cons_drop,if_pos hm,append_assoc];rfl
 rw[e];intro i c hc hr;rw[List.length_set];rw[List.getElem?_set] at hc;split at hc
 .cases hc;cases hr
 .exact l i c hc hr
def NmP (ns:List Tq)(cs:List Pc):Prop:=∀(i:Nat) (c:Pc),cs[i]?=some c->c.isStep=false->ns[i]?=some c.name
theorem NmP.take {ns:List Tq}{cs:List Pc}(h:NmP ns cs)(n:Nat):NmP ns (cs.take n):=λi c hc hs=>by
 rw[List.getElem?_take] at hc;split at hc
 .exact h i c hc hs
 .cases hc
theorem NmP.snoc {ns:List Tq}{cs:List Pc}{d:Pc}(h:NmP ns cs)(hd:d.isStep=false->ns[cs.length]?=some d.name):NmP ns (cs++[d]):=λi c hc hs=>by
 by_cases hi:i < cs.length
 .rw[List.getElem?_append_left hi] at hc;exact h i c hc hs
 .have:=(List.getElem?_eq_some_iff.mp hc).1;rw[length_append,length_singleton] at this;rw[List.getElem?_append_right (by lia),show i - cs.length=0 by lia] at hc;cases hc;rw[show i=cs.length by lia];exact hd hs
theorem NmP.put {ns:List Tq}{cs:List Pc}{m:Nat}{n:Tq}(h:NmP ns cs)(hm:m < cs.length)(hn:ns[m]?=some n):NmP ns (cs.take m++[.gap n]++cs.drop (m+1)):=by
 have e:cs.take m++[.gap n]++cs.drop (m+1)=cs.set m (.gap n):=by rw[List.set_eq_take_append_cons_drop,if_pos hm,append_assoc];rfl
 rw[e];intro i c hc hs;rw[List.getElem?_set] at hc;split at hc
 .rename_i z;cases hc;rw[<- z];exact hn
 .exact h i c hc hs
theorem ng {ns:List Tq}(hn:ns.Nodup){k:Nat}{n:Tq}(hk:ns[k]?=some n):(List.range ns.length).filter (λi=>decide (ns[i]?=some n))=[k]:=by
 have ld:=(List.getElem?_eq_some_iff.mp hk).1;have dl:∀i,i∈(List.range ns.length).filter (λi=>decide (ns[i]?=some n))↔i=k:=λi=>by
  rw[mem_filter,mem_range,decide_eq_true_eq];refine⟨λ⟨h1,h2⟩=>?_,λe=>by rw[e];exact⟨ld,hk⟩⟩;obtain⟨a1,a2⟩:=List.getElem?_eq_some_iff.mp h2;obtain⟨b1,b2⟩:=List.getElem?_eq_some_iff.mp hk;rw[nodup_iff_pairwise_ne,List.pairwise_iff_getElem] at hn;rcases Nat.lt_trichotomy i k with z|z|z
  .exact absurd (a2.trans b2.symm) (hn i k a1 b1 z)
  .exact z
  .exact absurd (b2.trans a2.symm) (hn k i b1 a1 z)
 have nd:((List.range ns.length).filter (λi=>decide (ns[i]?=some n))).Nodup:=List.nodup_range.filter _;generalize (List.range ns.length).filter (λi=>decide (ns[i]?=some n))=L at dl nd;match L,dl,nd with
 |[],dl,_=>exact absurd ((dl k).mpr rfl) (by simp)
 |[a],dl,_=>rw[(dl a).mp (by simp)]
 |a::b::r,dl,nd=>have h1:=(dl a).mp (by simp);have h2:=(dl b).mp (by simp);rw[h1,h2] at nd;simp at nd
theorem C8 {T:List Rw}(hn:(T.map (·.1)).Nodup){i j:Nat}{t u:Rw}(hi:T[i]?=some t)(hj:T[j]?=some u)(h:t.1=u.1):i=j:=by
 have a:(T.map (·.1))[i]?=some t.1:=by rw[List.getElem?_map,hi];rfl
 have b:(T.map (·.1))[j]?=some t.1:=by rw[List.getElem?_map,hj,h];rfl
 have:=ng hn a;have m:j∈(List.range (T.map (·.1)).length).filter (λi=>decide ((T.map (·.1))[i]?=some t.1)):=mem_filter.mpr ⟨mem_range.mpr (List.getElem?_eq_some_iff.mp b).1,decide_eq_true b⟩;rw[this] at m;exact (mem_singleton.mp m).symm
theorem nh {cs:List Pc}{bs:List (Tq×Vl)}{ws:List (Tq×PyData)}(h:GvA cs bs)(ok:∀c∈cs,PcOk c)(l:LastR cs)(hn:∀b∈bs,named ws b.1=[vlD b.2]):fillF cs ws=.ok (stpsM cs bs):=by have hf:=iC h ok l true;have g:=cY h ok l;obtain⟨_,_,h3,_,h5⟩:=gi hf;exact mN (λi c hc=>dy hf hc) l h3 (λs hs=>⟨(g.sg s hs).1,h5 s hs⟩) (λn x hx=>by rw[g.bnd] at hx;exact hn _ hx)
theorem C9 (l:List V):(List.range l.length).filterMap (λi=>l[i]?)=l:=by
 induction l with
 |nil=>rfl
 |cons a l ih=>rw[length_cons,range_succ_eq_map,filterMap_cons,List.filterMap_map];exact congrArg (a::·) ih
theorem Ca {l:List V}(h:l.length<=5):pickV l none none (some (-1))=l.reverse:=by
 have e:∀n:Nat,n<=5->sliceRange (sliceBounds none none (some (-1)) n).1 (sliceBounds none none (some (-1)) n).2.1 (sliceBounds none none (some (-1)) n).2.2=(List.range n).reverse:=λn hn=>by
  have:n=0\/n=1\/n=2\/n=3\/n=4\/n=5:=by lia
  rcases this with rfl|rfl|rfl|rfl|rfl|rfl <;> fail "k"
 unfold pickV;rw[e _ h,List.filterMap_reverse,C9]
theorem ni {bs:List (Tq×Vl)}:(bs.map λb=>(b.1,vlD b.2)).map (·.1)=bs.map (·.1):=by rw[map_map];rfl
theorem Cb {cs:List Pc}{bs:List (Tq×Vl)}(h:GvA cs bs)(ok:∀c∈cs,PcOk c)(l:LastR cs)(hn:(gapsM cs).Nodup):fillM cs (bs.reverse.map λb=>(b.1,vlD b.2))=.ok (stpsM cs bs):=by
 have hN:(bs.reverse.map (·.1)).Nodup:=(((List.reverse_perm bs).map (·.1)).nodup_iff).mpr (by rw[h.names];exact hn);have e:=nh (ws:=bs.reverse.map λb=>(b.1,vlD b.2)) h ok l (λb hb=>gh (by rw[ni];exact hN) (mem_map.mpr ⟨b,mem_reverse.mpr hb,rfl⟩));unfold fillM;rw[e,mH (λw hw=>by obtain⟨b,hb,rfl⟩:=mem_map.mp hw;rw[<- h.names];exact mem_map_of_mem (mem_reverse.mp hb))]
theorem VlsV.rev {H:Hp}{vs:List (Tq×PyData)}{xs:List V}(hh:VlsV H vs xs):VlsV H vs.reverse xs.reverse:=by
 induction hh with
 |nil=>exact .nil
 |cons h a r ih=>rw[List.reverse_cons,List.reverse_cons];exact (VlsV.cons h a .nil).append ih
theorem nj {T:List Rw}(hn:(T.map (·.1)).Nodup){k:Nat}{t:Rw}(hk:T[k]?=some t):T.find? (λu=>decide (u.1=t.1))=some t:=by
 cases h:T.find? (λu=>decide (u.1=t.1)) with
 |none=>rw[List.find?_eq_none] at h;exact absurd (decide_eq_true rfl) (h t (mem_of_getElem? hk))
 |some u=>have h1:=List.find?_some h;obtain⟨i,hi,e⟩:=List.getElem_of_mem (List.mem_of_find?_eq_some h);have hu:T[i]?=some u:=List.getElem?_eq_some_iff.mpr ⟨hi,e⟩;have:=C8 hn hu hk (of_decide_eq_true h1);rw[this,hk] at hu;exact hu.symm
noncomputable def wrsL (ss:List Tq):Nat:=(ss.map λs=>(wr s).length+1).sum
theorem nk {n:Nat}:∀{ss:List Tq},(∀s∈ss,s.length<=400)->ss.length<=n->wrsL ss<=1201 * n
 |[],_,_=>Nat.zero_le _
 |s::ss,h,hn=>by
  cases n with
  |zero=>simp at hn
  |succ n=>have h1:=h s (mem_cons_self ..);have h2:=bK s;have h3:=nk (n:=n) (λs hs=>h s (mem_cons_of_mem _ hs)) (by simpa using hn);show (wr s).length+1+wrsL ss<=_;lia
theorem Cc (ss:List Tq):(tlT 47 (ss.map wr)).length=wrsL ss:=by
 induction ss with
 |nil=>rfl
 |cons s ss ih=>show (47::(wr s++tlT 47 (ss.map wr))).length=(wr s).length+1+wrsL ss;rw[length_cons,length_append,ih];lia
theorem Cd (ss:List Tq):(joinT 47 (ss.map wr)).length<=wrsL ss:=by
 cases ss with
 |nil=>exact Nat.zero_le _
 |cons s ss=>show (wr s++tlT 47 (ss.map wr)).length<=(wr s).length+1+wrsL ss;rw[length_append,Cc];lia
theorem Ce {x:Ad}(h:x.Wf)(hq:∀ps,x.quest=some ps->ps.length<=3/\∀p∈ps,p.1.length<=5/\∀v,p.2=some v->v.length<=6)(hm:∀l,x.mark=some l->l.length<=7)(hs:∀s∈x.steps,s.length<=400)(hn:x.steps.length<=25):x.Sz:=by
 have a1:(schT x.scheme).length<=9:=by
  unfold schT;split
  .simp
  .have:=h.sch.1;simp only[length_append,length_cons,length_nil];lia
 have a2:(houT x.house).length<=182:=by
  cases hh:x.house with
  |none=>simp[houT]
  |some l=>have:=(h.hou l hh).1.2;have:=bK l;simp only[houT,length_cons];lia
 have a3:(dooT x.door).length<=6:=by
  cases hh:x.door with
  |none=>simp[dooT]
  |some i=>have b:=(h.doo i hh).1;have:=kY b.1 b.2;simp only[dooT,length_cons];lia
 have a4:x.wayT.length<=wrsL x.steps+2:=by
  have hj:=Cd x.steps;have e1:(if x.rooted then [47] else []:Tq).length<=1:=by split <;> simp
  have e2:(if x.ends && !x.steps.isEmpty then [47] else []:Tq).length<=1:=by split <;> simp
  simp only[Ad.wayT,Wm.wayT,length_append];lia
 have a5:(queT x.quest).length<=106:=by
  cases hq1:x.quest with
  |none=>simp[queT]
  |some ps=>
   have hk:=hq ps hq1;have hj:=yU (sep:=38) (m:=34) (ys:=ps.map pairT) λs hs=>by obtain⟨p,hp,rfl⟩:=mem_map.mp hs;have h1:=(hk.2 p hp).1;have h2:=ky (sep:=61) (n:=6) (o:=p.2) λv hv=>(hk.2 p hp).2 v hv;have:=bK p.1;simp only[pairT,length_append];lia
   rw[length_map] at hj;have:ps.length * (34+1)<=3 * 35:=Nat.mul_le_mul hk.1 (Nat.le_refl _);simp only[queT,length_cons];lia
 have a6:(oT 35 x.mark).length<=22:=by have:=ky (sep:=35) (n:=7) (o:=x.mark) λv hv=>hm v hv;lia
 have a7:=nk hs hn;refine⟨λs ld=>by have:=hs s ld;lia,λps hp=>?_,λl hl=>by have:=hm l hl;lia,by lia,?_⟩
 .obtain⟨q1,q2⟩:=hq ps hp;exact⟨by lia,λp dl=>⟨by have:=(q2 p dl).1;lia,λv hv=>by have:=(q2 p dl).2 v hv;lia⟩⟩
 .unfold Ad.shw;simp only[length_append];lia
noncomputable abbrev QuT:=Option (List (Tq×Option Tq))
def QSm (q:QuT):Prop:=∀ps,q=some ps->(ps.length<=3/\∀p∈ps,p.1.length<=5/\∀v,p.2=some v->v.length<=6)/\∀p∈ps,PairOk p
def MSm (m:Option Tq):Prop:=∀l,m=some l->l.length<=7/\∀c∈l,isSg c=true
theorem Cf {t:Tq}{c:Nat}(h:∀x∈t,isSg x=true)(hc:isSg c=true):∀x∈t++[c],isSg x=true:=λx hx=>by
 rcases mem_append.mp hx with z|z
 .exact h x z
 .rw[mem_singleton.mp z];exact hc
theorem nu {cs:List Pc}{bs:List (Tq×Vl)}(h:GvA cs bs)(ok:∀c∈cs,PcOk c)(l:LastR cs)(hn:(gapsM cs).Nodup):fillM cs (bs.map λb=>(b.1,vlD b.2))=.ok (stpsM cs bs):=by
 have hN:(bs.map (·.1)).Nodup:=by rw[h.names];exact hn
 have e:=nh (ws:=bs.map λb=>(b.1,vlD b.2)) h ok l (λb hb=>gh (by rw[ni];exact hN) (mem_map.mpr ⟨b,hb,rfl⟩));unfold fillM;rw[e,mH (λw hw=>by obtain⟨b,hb,rfl⟩:=mem_map.mp hw;rw[<- h.names];exact mem_map_of_mem hb)]
noncomputable def madeA (b:Ad)(ss:List Tq)(e:Bool)(q:QuT)(m:Option Tq):Ad:={ scheme:=b.scheme,house:=b.house,door:=b.door,rooted:=true,steps:=ss,ends:=e,quest:=q,mark:=m}
theorem nv {b:Ad}{ss:List Tq}{e:Bool}{q:QuT}{m:Option Tq}(hb:b.Wf)(hs:∀s∈ss,StepOk s)(he:ss=[]->e=true)(hq:QSm q)(hm:MSm m):(madeA b ss e q m).Wf where
 sch:=hb.sch
 hou:=hb.hou
 doo:=hb.doo
 stp:=hs
 roo:=λ_=>rfl
 end_:=he
 que:=λps h=>(hq ps h).2
 mar:=λl h=>(hm l h).2
theorem Cg {b:Ad}{ss:List Tq}{e:Bool}{q:QuT}{m:Option Tq}(hb:b.Wf)(hs:∀s∈ss,StepOk s)(he:ss=[]->e=true)(hq:QSm q)(hm:MSm m)(h4:∀s∈ss,s.length<=400)(hn:ss.length<=25):(madeA b ss e q m).Sz:=
 Ce (nv hb hs he hq hm) (λps h=>(hq ps h).1) (λl h=>(hm l h).1) h4 hn
theorem ny {H:Hp}:∀{cs:List Pc}{xs:List V},IsTAll H (cs.map pcD) xs->PcT H cs xs
 |[],_,.nil=>.nil
 |c::cs,_,.cons h t=>by obtain⟨p,rfl,hp⟩:=iH h.is;exact .cons hp (ny t)
theorem Ch {H:Hp}{cs:List Pc}{e:Bool}{v:V}(h:IsT H (.tuple [.tuple (cs.map pcD),.bool e]) v):∃p,v=.ref p/\PtAt H cs e p:=by
 obtain⟨p,zs,rfl,hp,hz⟩:=bX h;cases hz with
 |cons h1 h2=>
  cases h2 with
  |cons h3 h4=>cases h4;cases h3;obtain⟨q,xs,rfl,hq,hx⟩:=bX h1;exact⟨p,rfl,q,xs,hp,hq,ny hx⟩
theorem Ci {T pr po:List Rw}{m t:Rw}{k:Nat}(eT:T=pr++m::po)(hk:T[k]?=some t)(hne:k≠pr.length)(h1:t∈pr->mrR m t=true/\mrR t m=false)(h2:t∈po->mrR t m=false):mrR t m=false/\(mrR m t=false->pr.length < k):=by
 rw[eT] at hk;by_cases dl:k < pr.length
 .rw[List.getElem?_append_left dl] at hk;obtain⟨a,b⟩:=h1 (mem_of_getElem? hk);exact⟨b,λz=>by rw[a] at z;cases z⟩
 .rw[List.getElem?_append_right (by lia)] at hk;obtain⟨j,hj⟩:∃j,k - pr.length=j+1:=⟨k - pr.length - 1,by lia⟩;rw[hj,List.getElem?_cons_succ] at hk;exact⟨h2 (mem_of_getElem? hk),λ_=>by lia⟩
inductive TabC (H2:Hp)(a pn pl l:Addr)(m i:Nat)(nm:List Tq)(c:Int)(Z:St)(H3:Hp):Prop
 |mk (s:Same H2 H3) (cs:List Pc) (e:Bool) (p:Addr) (w9 w10 w11:Option V) (h:Z=[some (.ref a),some (.ref pn),some (.ref pl),some (.int 3),some (.int (m:Int)),some (.ref l),some (.int (0+(i:Int))),some (.int c),some (.ref p),w9,w10,w11]) (h1:PtAt H3 cs e p) (h2:PcsOk cs) (h3:LastR cs) (h4:cs.length<=5) (h5:NmP nm cs) (h6:cs=[]->e=true):TabC H2 a pn pl l m i nm c Z H3
noncomputable def top (i:Nat):Stmt:=PySem.Challenge.pw_waymark_k94_whole_filled_and_led_back.main.body.getD i (.Pass ⟨0,0,0,0⟩)
noncomputable def iN:List (Str×PyData):=[(ofString "step",.int 6),(ofString "part",.int 5),(ofString "number",.int 4),(ofString "word",.int 3),(ofString "gap",.int 2),(ofString "rest",.int 1)]
noncomputable abbrev iO:V:=.str (ofString "abcdefghijklmnopqrstuvwxyz")
noncomputable abbrev iP:V:=.str (ofString "0123456789")
noncomputable abbrev nz:V:=.str (ofString "abcdefghijklmnopqrstuvwxyzABCDEFGHIJKLMNOPQRSTUVWXYZ0123456789-_.")
noncomputable abbrev eK:V:=.str (ofString "!$'()*,;@&=+")
noncomputable abbrev iQ:V:=.str (ofString "!$'()*,;@+/?:")
noncomputable abbrev o0:V:=.str (ofString "!$'()*,;@&=+/?:")
noncomputable abbrev Cj:V:=.str (ofString ".")
noncomputable abbrev k_UP:V:=.str (ofString "..")
noncomputable abbrev o6:V:=.str (ofString "234567")
set_option genInjectivity false
set_option genSizeOf false
set_option genSizeOfSpec false
structure D (K:W.Frag)(mg:Str->Option Value) where
 Ck:Fd K mg "made_of" (top 16) ["text","signs"]
 iR:Fd K mg "pair_of" (top 17) ["sign"]
 o7:Fd K mg "figure_number" (top 19) ["figure"]
 Cm:Fd K mg "sign_numbered" (top 20) ["number"]
 Co:Fd K mg "is_whole" (top 37) ["address"]
 Cp:Fd K mg "is_tuple" (top 39) ["thing","count"]
 Cq:Fd K mg "is_whole_number" (top 41) ["thing"]
 o8:Fd K mg "slashed" (top 53) ["rooted","texts","ends"]
 Cr:Fd K mg "is_dot" (top 60) ["step"]
 Cs:Fd K mg "rests_stand_last" (top 73) ["pieces"]
 o9:Fd K mg "is_gap" (top 76) ["piece"]
 iS:Fd K mg "name_of" (top 77) ["gap"]
 Ct:Fd K mg "head_of" (top 78) ["piece"]
 Cu:Fd K mg "tail_of" (top 79) ["piece"]
 Cv:Fd K mg "has_rest" (top 80) ["pattern"]
 Cw:Fd K mg "pattern_named" (top 109) ["table","name"]
 Cy:Fd K mg "door_with" (top 118) ["door","cursor"]
 Cz:Fd K mg "_law_cell_at" (top 127) ["_law_script","_law_k"]
 CA:Fd K mg "_law_names" (top 128) ["_law_cell","_law_many"]
 ce:Fd K mg "_law_signs" (top 129) []
 CB:Fd K mg "_law_gaps" (top 136) ["_law_pattern_here"]
 CC:Fd K mg "_law_name_of" (top 137) ["_law_piece_here"]
 CD:Fd K mg "_law_filled" (top 139) ["_law_pattern_here","_law_values_here"]
 CF:Fd K mg "_law_pair" (top 141) ["_law_sign","_law_great"]
 CG:Fd K mg "is_text" (top 15) ["thing"]
 oA:Fd K mg "sign_of" (top 18) ["figures"]
 iT:Fd K mg "written" (top 21) ["text"]
 CH:Fd K mg "is_name" (top 72) ["thing"]
 CI:Fd K mg "names_of" (top 75) ["pieces"]
 CJ:Fd K mg "spread" (top 89) ["pattern","count"]
 CK:Fd K mg "fits_part" (top 91) ["part","step"]
 CL:Fd K mg "is_number" (top 92) ["text"]
 CM:Fd K mg "is_word" (top 93) ["text"]
 CN:Fd K mg "bound_value" (top 94) ["gap","steps"]
 CO:Fd K mg "steps_of_value" (top 99) ["gap","value"]
 CP:Fd K mg "worth_of" (top 104) ["piece"]
 CQ:Fd K mg "_law_text" (top 130) ["_law_cell"]
 CS:Fd K mg "_law_written" (top 142) ["_law_text_here","_law_cells"]
 oB:Fd K mg "sign_written" (top 23) ["piece","free"]
 CT:Fd K mg "is_scheme" (top 38) ["thing"]
 CU:Fd K mg "is_filled_text" (top 40) ["thing"]
 CV:Fd K mg "shown_house" (top 51) ["house","door"]
 CW:Fd K mg "shown_way" (top 52) ["way"]
 oC:Fd K mg "shown_asked" (top 55) ["name","value"]
 CY:Fd K mg "shown_mark" (top 56) ["mark"]
 CZ:Fd K mg "are_ends_of_part" (top 71) ["head","tail"]
 D0:Fd K mg "names_are_unlike" (top 74) ["pieces"]
 oE:Fd K mg "step_fits" (top 90) ["piece","step"]
 D1:Fd K mg "refuse_others" (top 100) ["pattern","values"]
 D2:Fd K mg "worth_more" (top 103) ["one","other"]
 D3:Fd K mg "taken_door" (top 117) ["cursor"]
 D4:Fd K mg "taken_pair" (top 125) ["cursor"]
 oF:Fd K mg "_law_step" (top 131) ["_law_cell"]
 oG:Fd K mg "_law_piece_text" (top 143) ["_law_piece_here","_law_cells"]
 D5:Fd K mg "shown_question" (top 54) ["question"]
 oH:Fd K mg "is_piece" (top 70) ["thing"]
 oI:Fd K mg "fits" (top 88) ["pattern","way"]
 oJ:Fd K mg "can_be_step" (top 98) ["thing"]
 D6:Fd K mg "worth_most" (top 107) ["entries"]
 D7:Fd K mg "taken_scheme" (top 115) ["cursor"]
 D8:Fd K mg "_law_piece" (top 132) ["_law_cell","_law_name"]
 D9:Fd K mg "_law_value" (top 135) ["_law_piece_here","_law_cell"]
 Da:Fd K mg "_law_pattern_text" (top 144) ["_law_pattern_here","_law_cells"]
 Db:Fd K mg "show" (top 50) ["address"]
 Dc:Fd K mg "are_pieces" (top 69) ["things"]
 Dd:Fd K mg "read_gap" (top 83) ["head","inside","tail"]
 De:Fd K mg "bound" (top 87) ["pattern","way"]
 Df:Fd K mg "is_value" (top 97) ["gap","value"]
 Dg:Fd K mg "taken_way" (top 119) ["cursor","must_be_rooted"]
 Dh:Fd K mg "taken_value" (top 121) ["cursor"]
 Di:Fd K mg "taken_mark" (top 122) ["cursor"]
 Dj:Fd K mg "_law_small" (top 134) ["_law_cell","_law_names_here"]
 Dk:Fd K mg "_law_values" (top 138) ["_law_pattern_here","_law_cells"]
 Dl:Fd K mg "is_pattern" (top 68) ["thing"]
 oK:Fd K mg "read_piece" (top 82) ["text"]
 Dm:Fd K mg "filled_steps" (top 96) ["piece","values"]
 Dn:Fd K mg "lead" (top 106) ["table","way"]
 Do:Fd K mg "taken_house" (top 116) ["cursor"]
 Dp:Fd K mg "taken_question" (top 120) ["cursor"]
 Dq:Fd K mg "_law_table" (top 140) ["_law_script","_law_names_here","_law_labels","_law_first","_law_many"]
 Dr:Fd K mg "read_pattern" (top 81) ["text"]
 Ds:Fd K mg "filled" (top 95) ["pattern","values"]
 Dt:Fd K mg "read" (top 114) ["text"]
 oM:Fd K mg "made" (top 108) ["table","name","values"]
 oN:Fd K mg "_law_read_table" (top 145) ["_law_table_here","_law_cells"]
 Du:Fd K mg "_law_led_right" (top 146) ["_law_table_here","_law_k","_law_values_here","_law_way"]
 Dv:Fd K mg "_law_holds" (top 147) ["_law_table_here","_law_k","_law_cell","_law_base"]
 f_law:Fd K mg "law" (top 148) ["_law_script"]
 iU:Cn mg "SIGNS" (.str (ofString " !\"#$&'()*+,-./0123456789:;<=>?@ABCDEFGHIJKLMNOPQRSTUVWXYZ[\\]^_`abcdefghijklmnopqrstuvwxyz{|}~"))
 iV:Cn mg "SMALL_LETTERS" iO
 oO:Cn mg "LETTERS" (.str (ofString "abcdefghijklmnopqrstuvwxyzABCDEFGHIJKLMNOPQRSTUVWXYZ"))
 oP:Cn mg "LETTERS_AND_FIGURES" (.str (ofString "abcdefghijklmnopqrstuvwxyzABCDEFGHIJKLMNOPQRSTUVWXYZ0123456789"))
 iW:Cn mg "FIGURES" iP
 eM:Cn mg "PLAIN" nz
 eO:Cn mg "FREE_IN_STEPS" eK
 iX:Cn mg "FREE_IN_QUESTIONS" iQ
 oQ:Cn mg "FREE_IN_MARKS" o0
 oR:Cn mg "FIRST_NUMBER" (.int 32)
 oS:Cn mg "LAST_NUMBER" (.int 126)
 oU:Cn mg "NUMBER_LEFT_OUT" (.int 37)
 iY:Cn mg "SMALL_FIGURES" (.str (ofString "0123456789abcdef"))
 oW:Cn mg "GREAT_FIGURES" (.str (ofString "0123456789ABCDEF"))
 iZ:Cn mg "SCHEME" (.int 0)
 oX:Cn mg "HOUSE" (.int 1)
 oY:Cn mg "DOOR" (.int 2)
 ia:Cn mg "WAY" (.int 3)
 oZ:Cn mg "QUESTION" (.int 4)
 oa:Cn mg "MARK" (.int 5)
 ib:Cn mg "ROOTED" (.int 0)
 eQ:Cn mg "STEPS" (.int 1)
 ic:Cn mg "ENDS" (.int 2)
 og:Cn mg "LONGEST_SCHEME" (.int 8)
 oh:Cn mg "LONGEST_HOUSE" (.int 60)
 oi:Cn mg "LAST_DOOR" (.int 65535)
 oj:Cn mg "STAY" Cj
 c_UP:Cn mg "UP" k_UP
 bP:Cn mg "PIECES" (.int 0)
 eR:Cn mg "CLOSES" (.int 1)
 on:Cn mg "MOST_PIECES" (.int 12)
 oo:Cn mg "LONGEST_NAME" (.int 8)
 oq:Cn mg "LONGEST_NUMBER" (.int 60)
 ou:Cn mg "LONGEST_WORD" (.int 60)
 ow:Cn mg "FIRST_FIGURES" o6
 bq:BltN mg "all" (.builtin "all")
 ie:BltN mg "ord" (.builtin "ord")
 aK:BltN mg "len" (.builtin "len")
 au:BltN mg "isinstance" (.builtin "isinstance")
 av:BltN mg "tuple" (.type "tuple")
 ig:BltN mg "bool" (.type "bool")
 cf:BltN mg "int" (.type "int")
 cg:BltN mg "range" (.type "range")
 b8:BltN mg "str" (.type "str")
 oy:BltN mg "dict" (.type "dict")
 ii:BltN mg "list" (.type "list")
 br:BltN mg "enumerate" (.type "enumerate")
 oz:BltN mg "set" (.type "set")
 eS:BltN mg "zip" (.type "zip")
structure G (w:World)(K:W.Frag)(mg:Str->Option Value) extends D K mg where
 eU:Addr
 eV:FuncData
 pA:Fun K "__init__" "Cursor.__init__" (inClass (top 113) 0) eU eV
 pB:Binds K eV ["self","text"] []
 eW:Addr
 eY:FuncData
 pC:Fun K "at_end" "Cursor.at_end" (inClass (top 113) 1) eW eY
 ij:Binds K eY ["self"] []
 ee:Addr
 eg:FuncData
 pE:Fun K "take" "Cursor.take" (inClass (top 113) 3) ee eg
 bt:Binds K eg ["self"] []
 eh:Addr
 ek:FuncData
 pF:Fun K "passes" "Cursor.passes" (inClass (top 113) 4) eh ek
 aw:Binds K ek ["self","text"] []
 el:Addr
 eo:FuncData
 pG:Fun K "sees" "Cursor.sees" (inClass (top 113) 2) el eo
 ci:Binds K eo ["self","signs"] []
 eu:Addr
 cj:FuncData
 pH:Addr
 pI:Tok
 ck:FunD K "undone" "undone" (top 22) eu cj pH
 Dw:Binds K cj ["text","free"] [.str (ofString "") pI]
 f6:mg "undone"=some (.ref eu)
 f7:Binds K cj ["text","free"] []
 f8:Addr
 cm:FuncData
 pJ:Addr
 Dx:Tok
 bQ:FunD K "taken_text" "taken_text" (top 124) f8 cm pJ
 bu:Binds K cm ["cursor","free","most"] [.none]
 bd:mg "taken_text"=some (.ref f8)
 pK:Binds K cm ["cursor","free","most"] []
 f9:Addr
 cn:FuncData
 pL:Addr
 Dy:Tok
 fA:FunD K "taken_filled_text" "taken_filled_text" (top 123) f9 cn pL
 pM:Binds K cn ["cursor","free","most"] [.none]
 ik:mg "taken_filled_text"=some (.ref f9)
 pN:Binds K cn ["cursor","free","most"] []
 fB:Addr
 cq:FuncData
 pO:Addr
 Dz:Tok
 DA:Tok
 io:FunD K "made_address" "made_address" (top 110) fB cq pO
 DB:Binds K cq ["table","base","name","values","question","mark"] [.none,.none]
 pP:mg "made_address"=some (.ref fB)
 pQ:Binds K cq ["table","base","name","values","question","mark"] []
 aH:Addr
 aI:Cls K aH
 bJ:NoAttr K aH "text"
 ai:NoAttr K aH "place"
 pR:mg "Cursor"=some (.ref aH)
 pS:Mk K aH eU
 ip:Meth K aH "at_end" eW
 bv:Meth K aH "take" ee
 ax:Meth K aH "passes" eh
 cr:Meth K aH "sees" el
 fC:Addr
 pT:mg "NAMED_WORDS"=some (.ref fC)
 pU:∀H,IsK K H (.tuple [.str (ofString "number"),.str (ofString "word"),.str (ofString "gap"),.str (ofString "rest")]) (.ref fC)
 fD:Addr
 pV:mg "WRITTEN_WORDS"=some (.ref fD)
 pW:∀H,IsK K H (.tuple [.str (ofString "number"),.str (ofString "word"),.str (ofString "rest")]) (.ref fD)
 fE:Addr
 pX:mg "WORTH_OF_WORDS"=some (.ref fE)
 pY:∀(P:Program) (h:Heap),K.In h->PyProof.Rows.StrTab P w h fE (iN.map λp=>(PyData.str p.1,p.2))
inductive sp_made_of (vs:List V)(H:Hp)(Q:VK)(E:XK):Prop
 |mk (x y:Str):vs=[.str x,.str y]->x.length<=100000->(∀H',Same H H'->Q (.bl (x.cps.toList.all λc=>decide (c∈y.cps.toList))) H')->sp_made_of vs H Q E
def pZ:Sp:=λvs H Q _=>∃c:Nat,vs=[one c]/\c < 256/\Q (.str ⟨[126,hexd (c / 16),hexd (c % 16)].toArray⟩) H
def pe:Sp:=λvs H Q _=>∃a:Nat,vs=[one a]/\a < 128/\Q (figV a) H
inductive sp_sign_numbered (vs:List V)(H:Hp)(Q:VK)(E:XK):Prop
 |mk (n:Nat):vs=[.int (n:Int)]->Q (sgV n) H->sp_sign_numbered vs H Q E
inductive sp_is_whole (K:W.Frag)(vs:List V)(H:Hp)(Q:VK)(E:XK):Prop
 |mk (p:Addr) (l:Tq) (r:List V):vs=[.ref p]->SqT K H p (.str ⟨l.toArray⟩::r)->Q (.bl (!decide (l=[]))) H->sp_is_whole K vs H Q E
inductive sp_is_tuple (vs:List V)(H:Hp)(Q:VK)(E:XK):Prop
 |mk (d:PyData) (v:V) (n:Int):vs=[v,.int n]->Is H d v->Q (.bl (tupN n d)) H->sp_is_tuple vs H Q E
inductive sp_is_whole_number (vs:List V)(H:Hp)(Q:VK)(E:XK):Prop
 |mk (d:PyData) (v:V):vs=[v]->Is H d v->Q (.bl (match d with|.int _=>true|_=>false)) H->sp_is_whole_number vs H Q E
inductive sp_slashed (K:W.Frag)(vs:List V)(H:Hp)(Q:VK)(E:XK):Prop
 |mk (r e:Bool) (p:Addr) (ts:List Tq):vs=[.bl r,.ref p,.bl e]->SqL K H p (ts.map λl=>V.str ⟨l.toArray⟩)->(joinT 47 ts).length<=90000->Q (.str ⟨(slT r ts e).toArray⟩) H->sp_slashed K vs H Q E
inductive sp_is_dot (vs:List V)(H:Hp)(Q:VK)(E:XK):Prop
 |mk (s:Stp):vs=[sV s]->Q (.bl (isDot s)) H->sp_is_dot vs H Q E
inductive sp_rests_stand_last (K:W.Frag)(vs:List V)(H:Hp)(Q:VK)(E:XK):Prop
 |mk (cs:List Pc) (xs:List V) (q:Addr):vs=[.ref q]->H q=some (.tup xs)->PcAll K H cs xs->cs.length<=1000->(∀H',Same H H'->Q (.bl (restsL cs)) H')->sp_rests_stand_last K vs H Q E
inductive sp_is_gap (K:W.Frag)(vs:List V)(H:Hp)(Q:VK)(E:XK):Prop
 |mk (c:Pc) (p:Addr):vs=[.ref p]->SqT K H p c.vals->Q (.bl (!c.isStep)) H->sp_is_gap K vs H Q E
inductive sp_name_of (K:W.Frag)(vs:List V)(H:Hp)(Q:VK)(E:XK):Prop
 |mk (c:Pc) (p:Addr):vs=[.ref p]->SqT K H p c.vals->c.isStep=false->Q (tV c.name) H->sp_name_of K vs H Q E
inductive sp_head_of (K:W.Frag)(vs:List V)(H:Hp)(Q:VK)(E:XK):Prop
 |mk (c:Pc) (p:Addr):vs=[.ref p]->SqT K H p c.vals->Q (tV c.head) H->sp_head_of K vs H Q E
inductive sp_tail_of (K:W.Frag)(vs:List V)(H:Hp)(Q:VK)(E:XK):Prop
 |mk (c:Pc) (p:Addr):vs=[.ref p]->SqT K H p c.vals->Q (tV c.tail) H->sp_tail_of K vs H Q E
inductive sp_has_rest (K:W.Frag)(vs:List V)(H:Hp)(Q:VK)(E:XK):Prop
 |mk (cs:List Pc) (xs:List V) (p q:Addr) (e:Bool):vs=[.ref p]->SqT K H p [.ref q,.bl e]->SqT K H q xs->PcAll K H cs xs->cs.length<=1000->Q (.bl (hasRest cs)) H->sp_has_rest K vs H Q E
inductive sp_pattern_named (K:W.Frag)(vs:List V)(H:Hp)(Q:VK)(E:XK):Prop
 |mk (l:Addr) (T:List Rw) (ws:List V) (n:Tq) (t:Rw):vs=[.ref l,tV n]->H l=some (.lst ws)->TbV H T ws->T.find? (λt=>decide (t.1=n))=some t->(∀(p:Addr) (H':Hp),Same H H'->PtAt H' t.2.1 t.2.2 p->Q (.ref p) H')->sp_pattern_named K vs H Q E
inductive sp_Cursor___init__ (K:W.Frag)(C:Addr)(vs:List V)(H:Hp)(Q:VK)(E:XK):Prop
 |mk (p dx:Addr) (t:Tq):vs=[.ref p,.str ⟨t.toArray⟩]->H p=some (.ins C dx [])->(∀H',SameBut p H H'->Cur H' C p t 0->Q .non H')->sp_Cursor___init__ K C vs H Q E
inductive sp_Cursor_at_end (K:W.Frag)(C:Addr)(vs:List V)(H:Hp)(Q:VK)(E:XK):Prop
 |mk (p:Addr) (t:Tq) (i:Nat):vs=[.ref p]->Cur H C p t i->t.length<=100000->Q (.bl (decide (i=t.length))) H->sp_Cursor_at_end K C vs H Q E
inductive sp_Cursor_take (K:W.Frag)(C:Addr)(vs:List V)(H:Hp)(Q:VK)(E:XK):Prop
 |mk (p:Addr) (t:Tq) (i c:Nat):vs=[.ref p]->Cur H C p t i->t[i]?=some c->t.length<=100000->(∀H',SameBut p H H'->Cur H' C p t (i+1)->Q (.str ⟨#[c]⟩) H')->sp_Cursor_take K C vs H Q E
inductive sp_Cursor_passes (K:W.Frag)(C:Addr)(vs:List V)(H:Hp)(Q:VK)(E:XK):Prop
 |mk (p:Addr) (t w:Tq) (i:Nat):vs=[.ref p,.str ⟨w.toArray⟩]->Cur H C p t i->i<=t.length->t.length<=100000->((t.drop i).take w.length=w->∀H',SameBut p H H'->Cur H' C p t (i+w.length)->Q (.bl true) H')->(¬ (t.drop i).take w.length=w->Q (.bl false) H)->sp_Cursor_passes K C vs H Q E
inductive sp_door_with (K:W.Frag)(C:Addr)(vs:List V)(H:Hp)(Q:VK)(E:XK):Prop
 |mk (p:Addr) (t:Tq) (i c n:Nat):vs=[.int (n:Int),.ref p]->Cur H C p t i->t.length<=100000->t[i]?=some c->48<=c->c<=57->n<=100000->Q (.int ((n * 10+(c - 48):Nat):Int)) H->sp_door_with K C vs H Q E
inductive sp__law_cell_at (K:W.Frag)(vs:List V)(H:Hp)(Q:VK)(E:XK):Prop
 |mk (a:Addr) (ns:List Int) (k:Nat):vs=[.ref a,.int (k:Int)]->SqL K H a (ns.map V.int)->Q (.int (ns.getD k 0)) H->sp__law_cell_at K vs H Q E
inductive sp__law_names (K:W.Frag)(vs:List V)(H:Hp)(Q:VK)(E:XK):Prop
 |mk (c:Int) (m:Nat):vs=[.int c,.int (m:Int)]->m<=26->(∀(ns:List Tq) (p:Addr) (H':Hp),ns.length=m->(∀n∈ns,0 < n.length/\n.length<=8/\n.all isSma=true)->ns.Nodup->Same H H'->H' p=some (.lst (ns.map tV))->Q (.ref p) H')->sp__law_names K vs H Q E
def ph:Sp:=λvs H Q _=>vs=[]/\Q (.str ⟨SG.toArray⟩) H
inductive sp__law_gaps (K:W.Frag)(vs:List V)(H:Hp)(Q:VK)(E:XK):Prop
 |mk (cs:List Pc) (e:Bool) (p:Addr):vs=[.ref p]->PtAt H cs e p->cs.length<=90->(∀(l:Addr) (ys:List V) (H':Hp),H l=none->Same H H'->H' l=some (.lst ys)->PcT H' (cs.filter λc=>!c.isStep) ys->Q (.ref l) H')->sp__law_gaps K vs H Q E
inductive sp__law_name_of (K:W.Frag)(vs:List V)(H:Hp)(Q:VK)(E:XK):Prop
 |mk (c:Pc) (p:Addr):vs=[.ref p]->SqT K H p c.vals->c.isStep=false->Q (tV c.name) H->sp__law_name_of K vs H Q E
inductive sp__law_filled (K:W.Frag)(vs:List V)(H:Hp)(Q:VK)(E:XK):Prop
 |mk (cs:List Pc) (e:Bool) (p l l0:Addr) (bs:List (Tq×Vl)) (ys:List V):vs=[.ref p,.ref l]->PtAt H cs e p->(∀c∈cs,PcOk c)->LastR cs->cs.length<=12->GvA cs bs->(gapsM cs).Nodup->H l=some (.lst ys)->BndV H l0 bs ys->(∀(pw ps:Addr) (H':Hp),Same H H'->H' pw=some (.tup [.bl true,.ref ps,.bl e])->H' ps=some (.tup ((stpsM cs bs).map tV))->Q (.ref pw) H')->sp__law_filled K vs H Q E
inductive sp__law_pair (vs:List V)(H:Hp)(Q:VK)(E:XK):Prop
 |mk (c:Nat) (g:Bool):vs=[.str ⟨#[c]⟩,.bl g]->isSg c=true->(∀a b,sgO a b=some c->(g=false->a=hexd (c / 16)/\b=hexd (c % 16))->Q (.str ⟨[126,a,b].toArray⟩) H)->sp__law_pair vs H Q E
inductive sp_is_text (vs:List V)(H:Hp)(Q:VK)(E:XK):Prop
 |mk (d:PyData) (v:V):vs=[v]->Is H d v->smallD d=true->(∀H',Same H H'->Q (.bl (tx d)) H')->sp_is_text vs H Q E
def pi:Sp:=λvs H Q _=>∃l:Tq,vs=[.str ⟨l.toArray⟩]/\l.length<=1000/\(∀c∈l,c < 128)/\Q (signOfL l) H
def cu:Sp:=λvs H Q _=>∃l:Tq,vs=[.str ⟨l.toArray⟩]/\l.length<=2000/\(∀c∈l,isSg c=true)/\∀H',Same H H'->Q (.str ⟨(wr l).toArray⟩) H'
inductive sp_is_name (vs:List V)(H:Hp)(Q:VK)(E:XK):Prop
 |mk (n:Tq):vs=[tV n]->NmOk n->(∀H',Same H H'->Q (.bl true) H')->sp_is_name vs H Q E
inductive sp_names_of (K:W.Frag)(vs:List V)(H:Hp)(Q:VK)(E:XK):Prop
 |mk (cs:List Pc) (xs:List V) (q:Addr):vs=[.ref q]->SqT K H q xs->PcAll K H cs xs->cs.length<=1000->(∀(p:Addr) (H':Hp),Same H H'->H' p=some (.lst ((gapsM cs).map tV))->Q (.ref p) H')->sp_names_of K vs H Q E
inductive sp_spread (K:W.Frag)(vs:List V)(H:Hp)(Q:VK)(E:XK):Prop
 |mk (cs:List Pc) (xs:List V) (p q:Addr) (e:Bool) (n:Nat):vs=[.ref p,.int (n:Int)]->SqT K H p [.ref q,.bl e]->H q=some (.tup xs)->PcAll K H cs xs->cs.length<=100->n<=500->(spreadM cs n=none->Q .non H)->(∀(ds:List Pc) (ys:List V) (r:Addr) (H':Hp),spreadM cs n=some ds->Same H H'->SqT K H' r ys->PcAll K H' ds ys->Q (.ref r) H')->sp_spread K vs H Q E
inductive sp_fits_part (K:W.Frag)(vs:List V)(H:Hp)(Q:VK)(E:XK):Prop
 |mk (h n t s:Tq) (p:Addr):vs=[.ref p,tV s]->SqT K H p (Pc.part h n t).vals->s.length<=100000->h.length<=100000->t.length<=100000->Q (.bl (partB h t s)) H->sp_fits_part K vs H Q E
inductive sp_is_number (vs:List V)(H:Hp)(Q:VK)(E:XK):Prop
 |mk (l:Tq):vs=[tV l]->l.length<=100000->(∀H',Same H H'->Q (.bl (numB l)) H')->sp_is_number vs H Q E
inductive sp_is_word (vs:List V)(H:Hp)(Q:VK)(E:XK):Prop
 |mk (l:Tq):vs=[tV l]->l.length<=100000->(∀H',Same H H'->Q (.bl (wordB l)) H')->sp_is_word vs H Q E
inductive sp_bound_value (K:W.Frag)(vs:List V)(H:Hp)(Q:VK)(E:XK):Prop
 |mk (c:Pc) (s:Tq) (ss:List Tq) (p q:Addr):vs=[.ref p,.ref q]->SqT K H p c.vals->H q=some (.tup ((s::ss).map tV))->fitsM c s=true->s.length<=100000->c.head.length<=100000->c.tail.length<=100000->ss.length<=1000->(∀v H',Same H H'->VlV H' (bvM c (s::ss)) v->(∀q,v=.ref q->H q=none)->Q v H')->sp_bound_value K vs H Q E
inductive sp_steps_of_value (K:W.Frag)(vs:List V)(H:Hp)(Q:VK)(E:XK):Prop
 |mk (c:Pc) (p:Addr) (d:PyData) (v:V):vs=[.ref p,v]->SqT K H p c.vals->c.isStep=false->c.head.length<=100000->c.tail.length<=100000->Is H d v->smallD d=true->isValD c d=true->(∀(q:Addr) (H':Hp),Same H H'->H' q=some (.lst ((stpsD c d).map tV))->Q (.ref q) H')->sp_steps_of_value K vs H Q E
inductive sp_worth_of (K:W.Frag)(vs:List V)(H:Hp)(Q:VK)(E:XK):Prop
 |mk (c:Pc) (p:Addr):vs=[.ref p]->SqT K H p c.vals->PcTx c->(∀(r:Addr) (H':Hp),Same H H'->H' r=some (.tup ((worthM c).map V.int))->Q (.ref r) H')->sp_worth_of K vs H Q E
inductive sp_Cursor_sees (K:W.Frag)(C:Addr)(vs:List V)(H:Hp)(Q:VK)(E:XK):Prop
 |mk (p:Addr) (t sg:Tq) (i:Nat):vs=[.ref p,.str ⟨sg.toArray⟩]->Cur H C p t i->i<=t.length->t.length<=100000->Q (.bl (seesB t sg i)) H->sp_Cursor_sees K C vs H Q E
inductive sp__law_text (K:W.Frag)(vs:List V)(H:Hp)(Q:VK)(E:XK):Prop
 |mk (c:Int):vs=[.int c]->(∀(l:Tq) (H':Hp),l.length<=4->(∀c∈l,isSg c=true)->Same H H'->Q (tV l) H')->sp__law_text K vs H Q E
inductive sp__law_written (K:W.Frag)(vs:List V)(H:Hp)(Q:VK)(E:XK):Prop
 |mk (s:Tq) (q:Addr) (cs:List Int):vs=[tV s,.ref q]->H q=some (.lst (cs.map V.int))->cs.length<=1000->(∀c∈s,isSg c=true)->s.length<=100->(∀(w:Tq) (H':Hp),WrT frS s w->w.length<=3 * s.length->(cs=[]->w=wr s)->Same H H'->Q (tV w) H')->sp__law_written K vs H Q E
def pj:Sp:=λvs H Q _=>∃(c:Nat) (r fr:Tq),vs=[.str ⟨(c::r).toArray⟩,.str ⟨fr.toArray⟩]/\r.length<=1000/\(∀d∈c::r,d < 128)/\(c=126\/r=[])/\Q (swV fr (c::r)) H
inductive sp_is_scheme (vs:List V)(H:Hp)(Q:VK)(E:XK):Prop
 |mk (d:PyData) (v:V):vs=[v]->Is H d v->smallD d=true->(∀H',Same H H'->Q (.bl (schD d)) H')->sp_is_scheme vs H Q E
inductive sp_is_filled_text (vs:List V)(H:Hp)(Q:VK)(E:XK):Prop
 |mk (d:PyData) (v:V):vs=[v]->Is H d v->smallD d=true->(∀H',Same H H'->Q (.bl (ftx d)) H')->sp_is_filled_text vs H Q E
inductive sp_shown_house (vs:List V)(H:Hp)(Q:VK)(E:XK):Prop
 |mk (o:Option Tq) (d:Option Int):vs=[otV o,itV d]->(∀l,o=some l->l.length<=60/\∀c∈l,isSg c=true)->(∀i,d=some i->(0<=i/\i<=65535)/\o≠none)->(∀H',Same H H'->Q (.str ⟨(houT o++dooT d).toArray⟩) H')->sp_shown_house vs H Q E
inductive sp_shown_way (K:W.Frag)(vs:List V)(H:Hp)(Q:VK)(E:XK):Prop
 |mk (r e:Bool) (ss:List Tq) (p q:Addr):vs=[.ref p]->SqT K H p [.bl r,.ref q,.bl e]->SqT K H q (ss.map λl=>V.str ⟨l.toArray⟩)->(∀s∈ss,s.length<=2000/\∀c∈s,isSg c=true)->ss.length<=2000->(wayT r ss e).length<=90000->(∀H',Same H H'->Q (.str ⟨(wayT r ss e).toArray⟩) H')->sp_shown_way K vs H Q E
inductive sp_shown_asked (vs:List V)(H:Hp)(Q:VK)(E:XK):Prop
 |mk (n:Tq) (o:Option Tq):vs=[.str ⟨n.toArray⟩,otV o]->PairOk (n,o)->n.length<=2000->(∀l,o=some l->l.length<=2000)->(∀H',Same H H'->Q (.str ⟨(pairT (n,o)).toArray⟩) H')->sp_shown_asked vs H Q E
inductive sp_shown_mark (vs:List V)(H:Hp)(Q:VK)(E:XK):Prop
 |mk (o:Option Tq):vs=[otV o]->(∀l,o=some l->l.length<=2000/\∀c∈l,isSg c=true)->(∀H',Same H H'->Q (.str ⟨(oT 35 o).toArray⟩) H')->sp_shown_mark vs H Q E
inductive sp_are_ends_of_part (vs:List V)(H:Hp)(Q:VK)(E:XK):Prop
 |mk (a b:Tq):vs=[tV a,tV b]->a.length<=100->b.length<=100->(∀c∈a,isSg c=true)->(∀c∈b,isSg c=true)->a++b≠[]->(∀H',Same H H'->Q (.bl true) H')->sp_are_ends_of_part vs H Q E
inductive sp_names_are_unlike (K:W.Frag)(vs:List V)(H:Hp)(Q:VK)(E:XK):Prop
 |mk (cs:List Pc) (xs:List V) (q:Addr):vs=[.ref q]->H q=some (.tup xs)->PcAll K H cs xs->cs.length<=1000->(∀H',Same H H'->Q (.bl (decide ((gapsM cs).Nodup))) H')->sp_names_are_unlike K vs H Q E
inductive sp_step_fits (K:W.Frag)(vs:List V)(H:Hp)(Q:VK)(E:XK):Prop
 |mk (c:Pc) (s:Tq) (p:Addr):vs=[.ref p,tV s]->SqT K H p c.vals->s.length<=100000->c.head.length<=100000->c.tail.length<=100000->(∀H',Same H H'->Q (.bl (fitsM c s)) H')->sp_step_fits K vs H Q E
inductive sp_refuse_others (K:W.Frag)(vs:List V)(H:Hp)(Q:VK)(E:XK):Prop
 |mk (cs:List Pc) (xs:List V) (p q pz:Addr) (cl:Bool) (ws:List (Tq×PyData)) (ys:List V):vs=[.ref p,.ref pz]->SqT K H p [.ref q,.bl cl]->SqT K H q xs->PcAll K H cs xs->cs.length<=100->H pz=some (.lst ys)->VlsV H ws ys->ws.length<=100000->otherM cs ws=none->(∀H',Same H H'->Q .non H')->sp_refuse_others K vs H Q E
inductive sp_worth_more (K:W.Frag)(vs:List V)(H:Hp)(Q:VK)(E:XK):Prop
 |mk (cs ds:List Pc) (xs ys:List V) (p q p' q':Addr) (e e':Bool):vs=[.ref p,.ref p']->SqT K H p [.ref q,.bl e]->SqT K H q xs->PcAll K H cs xs->SqT K H p' [.ref q',.bl e']->SqT K H q' ys->PcAll K H ds ys->cs.length<=90->ds.length<=90->(∀c∈cs,PcTx c)->(∀c∈ds,PcTx c)->(∀H',Same H H'->Q (.bl (moreM cs ds)) H')->sp_worth_more K vs H Q E
inductive sp_taken_door (K:W.Frag)(C:Addr)(vs:List V)(H:Hp)(Q:VK)(E:XK):Prop
 |mk (p:Addr) (t w r:Tq) (i:Nat) (o:Option Int):vs=[.ref p]->Cur H C p t i->i<=t.length->t.length<=100000->(∀c∈t,c < 128)->t.drop i=w++r->DooW o w->(∀c,r.head?=some c->¬ (48<=c/\c<=57))->(o=none->r.head?≠some 58)->(∀H',SameBut p H H'->Cur H' C p t (i+w.length)->Q (itV o) H')->sp_taken_door K C vs H Q E
inductive sp_taken_pair (K:W.Frag)(C:Addr)(vs:List V)(H:Hp)(Q:VK)(E:XK):Prop
 |mk (p:Addr) (t r:Tq) (i a b c:Nat):vs=[.ref p]->Cur H C p t i->t.drop i=a::b::r->sgO a b=some c->t.length<=100000->(∀H',SameBut p H H'->Cur H' C p t (i+2)->Q (.str ⟨#[c]⟩) H')->sp_taken_pair K C vs H Q E
inductive sp__law_step (K:W.Frag)(vs:List V)(H:Hp)(Q:VK)(E:XK):Prop
 |mk (c:Int):vs=[.int c]->(∀(l:Tq) (H':Hp),0 < l.length->l.length<=5->(∀c∈l,isSg c=true)->isDot l=false->Same H H'->Q (tV l) H')->sp__law_step K vs H Q E
inductive sp__law_piece_text (K:W.Frag)(vs:List V)(H:Hp)(Q:VK)(E:XK):Prop
 |mk (c:Pc) (p q:Addr) (is:List Int):vs=[.ref p,.ref q]->H p=some (.tup c.vals)->PcOk c->(c.isStep=false->NmOk c.name)->H q=some (.lst (is.map V.int))->is.length<=1000->(∀(w:Tq) (H':Hp),PcW c w->w.length<=700->(is=[]->w=pcT c)->Same H H'->Q (tV w) H')->sp__law_piece_text K vs H Q E
def q0:Sp:=λvs H Q _=>∃l fr:Tq,vs=[.str ⟨l.toArray⟩,.str ⟨fr.toArray⟩]/\l.length<=2000/\(∀c∈l,c < 128)/\∀H',Same H H'->Q (undV (und fr l)) H'
inductive sp_shown_question (K:W.Frag)(vs:List V)(H:Hp)(Q:VK)(E:XK):Prop
 |mk (q:Option (List (Tq×Option Tq))) (v:V):vs=[v]->IsK K H (qD q) v->(∀ps,q=some ps->ps.length<=2000/\∀p∈ps,PairOk p/\p.1.length<=2000/\∀l,p.2=some l->l.length<=2000)->(queT q).length<=90000->(∀H',Same H H'->Q (.str ⟨(queT q).toArray⟩) H')->sp_shown_question K vs H Q E
inductive sp_is_piece (K:W.Frag)(vs:List V)(H:Hp)(Q:VK)(E:XK):Prop
 |mk (c:Pc) (v:V):vs=[v]->IsT H (pcD c) v->PcOk c->(c.isStep=false->NmOk c.name)->(∀H',Same H H'->Q (.bl true) H')->sp_is_piece K vs H Q E
inductive sp_fits (K:W.Frag)(vs:List V)(H:Hp)(Q:VK)(E:XK):Prop
 |mk (cs:List Pc) (xs:List V) (p q pw ps:Addr) (cl r e:Bool) (ss:List Tq):vs=[.ref p,.ref pw]->SqT K H p [.ref q,.bl cl]->H q=some (.tup xs)->PcAll K H cs xs->cs.length<=100->PcSz cs->SqT K H pw [.bl r,.ref ps,.bl e]->SqT K H ps (ss.map tV)->ss.length<=500->(∀s∈ss,s.length<=100000)->(∀H',Same H H'->Q (.bl (fitsP cs cl r ss e)) H')->sp_fits K vs H Q E
inductive sp_can_be_step (K:W.Frag)(vs:List V)(H:Hp)(Q:VK)(E:XK):Prop
 |mk (d:PyData) (v:V):vs=[v]->Is H d v->smallD d=true->(∀H',Same H H'->Q (.bl (canD d)) H')->sp_can_be_step K vs H Q E
inductive sp_worth_most (K:W.Frag)(vs:List V)(H:Hp)(Q:VK)(E:XK):Prop
 |mk (l:Addr) (b:Rw) (L:List Rw) (ws:List V):vs=[.ref l]->H l=some (.lst ws)->TbV H (b::L) ws->(∀r∈b::L,PcsOk r.2.1)->L.length<=90->(∀(v:V) (H':Hp),Same H H'->RwAt H' (mostM mrR b L) v->Q v H')->sp_worth_most K vs H Q E
inductive sp_taken_scheme (K:W.Frag)(C:Addr)(vs:List V)(H:Hp)(Q:VK)(E:XK):Prop
 |mk (p:Addr) (t:Tq):vs=[.ref p]->Cur H C p t 0->t.length<=90000->(∀H',SameBut p H H'->Cur H' C p t (schP t)->Q (.str ⟨(schM t).toArray⟩) H')->sp_taken_scheme K C vs H Q E
inductive sp_taken_text (K:W.Frag)(C:Addr)(vs:List V)(H:Hp)(Q:VK)(E:XK):Prop
 |mk (p:Addr) (t fr s w r:Tq) (i:Nat) (mo:Option Nat):vs=[.ref p,.str ⟨fr.toArray⟩,moV mo]->Cur H C p t i->i<=t.length->t.length<=100000->(∀c∈t,c < 128)->fr.length<=100->t.drop i=w++r->WrT fr s w->((Stops fr r\/mo=some s.length))->(∀m,mo=some m->s.length<=m)->(∀H',SameBut p H H'->Cur H' C p t (i+w.length)->Q (.str ⟨s.toArray⟩) H')->sp_taken_text K C vs H Q E
inductive sp__law_piece (K:W.Frag)(vs:List V)(H:Hp)(Q:VK)(E:XK):Prop
 |mk (c:Int) (n:Tq):vs=[.int c,tV n]->(∀(pc:Pc) (p:Addr) (H':Hp),PcOk pc->pc.isRest=false->(pc.isStep=false->pc.name=n)->Same H H'->H' p=some (.tup pc.vals)->Q (.ref p) H')->sp__law_piece K vs H Q E
inductive sp__law_value (K:W.Frag)(vs:List V)(H:Hp)(Q:VK)(E:XK):Prop
 |mk (c:Pc) (p:Addr) (i:Int):vs=[.ref p,.int i]->H p=some (.tup c.vals)->PcOk c->c.isStep=false->(∀(x:Vl) (v:V) (H':Hp),GvOk c x->SmV x->Same H H'->VlV H' x v->(∀q,v=.ref q->H q=none)->Q v H')->sp__law_value K vs H Q E
inductive sp__law_pattern_text (K:W.Frag)(vs:List V)(H:Hp)(Q:VK)(E:XK):Prop
 |mk (cs:List Pc) (e:Bool) (p q r:Addr) (xs:List V) (is:List Int):vs=[.ref p,.ref r]->H p=some (.tup [.ref q,.bl e])->H q=some (.tup xs)->PcT H cs xs->cs.length<=12->(∀c∈cs,PcOk c/\(c.isStep=false->NmOk c.name))->H r=some (.lst (is.map V.int))->is.length<=1000->(∀(ws:List Tq) (H':Hp),PcWs cs ws->(∀w∈ws,w.length<=700)->(is=[]->ws=cs.map pcT)->Same H H'->Q (tV (slT true ws e)) H')->sp__law_pattern_text K vs H Q E
inductive sp_show (K:W.Frag)(vs:List V)(H:Hp)(Q:VK)(E:XK):Prop
 |mk (x:Ad) (v:V):vs=[v]->IsK K H x.data v->x.Wf->x.Sz->(∀H',Same H H'->Q (.str ⟨x.shw.toArray⟩) H')->sp_show K vs H Q E
inductive sp_are_pieces (K:W.Frag)(vs:List V)(H:Hp)(Q:VK)(E:XK):Prop
 |mk (cs:List Pc) (e:Bool) (xs:List V) (q:Addr):vs=[.ref q]->H q=some (.tup xs)->IsTAll H (cs.map pcD) xs->PtG cs e->(∀H',Same H H'->Q (.bl true) H')->sp_are_pieces K vs H Q E
inductive sp_read_gap (K:W.Frag)(vs:List V)(H:Hp)(Q:VK)(E:XK):Prop
 |mk (c:Pc) (a i b:Tq):vs=[tV a,tV i,tV b]->GpW c a i b->a.length<=2000->i.length<=2000->b.length<=2000->(∀(v:V) (H':Hp),Same H H'->IsT H' (pcD c) v->Q v H')->sp_read_gap K vs H Q E
inductive sp_bound (K:W.Frag)(vs:List V)(H:Hp)(Q:VK)(E:XK):Prop
 |mk (cs:List Pc) (xs:List V) (p q pw ps:Addr) (cl r e:Bool) (ss:List Tq):vs=[.ref p,.ref pw]->SqT K H p [.ref q,.bl cl]->H q=some (.tup xs)->PcAll K H cs xs->cs.length<=100->PcSz cs->SqT K H pw [.bl r,.ref ps,.bl e]->H ps=some (.tup (ss.map tV))->ss.length<=500->(∀s∈ss,s.length<=100000)->(fitsP cs cl r ss e=false->∀H',Same H H'->Q .non H')->(fitsP cs cl r ss e=true->∀(l:Addr) (ys:List V) (H':Hp),H l=none->FrB H H' ys->Same H H'->H' l=some (.lst ys)->BndV H' l (boundM cs ss) ys->Q (.ref l) H')->sp_bound K vs H Q E
inductive sp_is_value (K:W.Frag)(vs:List V)(H:Hp)(Q:VK)(E:XK):Prop
 |mk (c:Pc) (p:Addr) (d:PyData) (v:V):vs=[.ref p,v]->SqT K H p c.vals->c.isStep=false->c.head.length<=100000->c.tail.length<=100000->Is H d v->smallD d=true->isValD c d=true->(∀H',Same H H'->Q (.bl true) H')->sp_is_value K vs H Q E
inductive sp_taken_way (K:W.Frag)(C:Addr)(vs:List V)(H:Hp)(Q:VK)(E:XK):Prop
 |mk (p:Addr) (t v rest:Tq) (i:Nat) (must r:Bool) (ss:List Tq) (e:Bool):vs=[.ref p,.bl must]->Cur H C p t i->i<=t.length->t.length<=100000->(∀c∈t,c < 128)->t.drop i=(if r then [47] else [])++(v++rest)->StpW ss e v->(ss=[]->e=r)->(must=true->r=true)->Stops frS rest->rest.head?≠some 47->(∀(u:V) (H':Hp),SameBut p H H'->Cur H' C p t (t.length - rest.length)->IsT H' (wayOf (r,ss,e)) u->Q u H')->sp_taken_way K C vs H Q E
inductive sp_taken_value (K:W.Frag)(C:Addr)(vs:List V)(H:Hp)(Q:VK)(E:XK):Prop
 |mk (p:Addr) (t w r:Tq) (i:Nat) (o:Option Tq):vs=[.ref p]->Cur H C p t i->i<=t.length->t.length<=100000->(∀c∈t,c < 128)->t.drop i=w++r->ValW o w->Stops frQ r->r.head?≠some 61->(∀H',SameBut p H H'->Cur H' C p t (i+w.length)->Q (otV o) H')->sp_taken_value K C vs H Q E
inductive sp_taken_mark (K:W.Frag)(C:Addr)(vs:List V)(H:Hp)(Q:VK)(E:XK):Prop
 |mk (p:Addr) (t w:Tq) (i:Nat) (o:Option Tq):vs=[.ref p]->Cur H C p t i->i<=t.length->t.length<=100000->(∀c∈t,c < 128)->t.drop i=w->MarW o w->(∀H',SameBut p H H'->Cur H' C p t t.length->Q (otV o) H')->sp_taken_mark K C vs H Q E
inductive sp_taken_filled_text (K:W.Frag)(C:Addr)(vs:List V)(H:Hp)(Q:VK)(E:XK):Prop
 |mk (p:Addr) (t fr s w r:Tq) (i:Nat) (mo:Option Nat):vs=[.ref p,.str ⟨fr.toArray⟩,moV mo]->Cur H C p t i->i<=t.length->t.length<=100000->(∀c∈t,c < 128)->fr.length<=100->t.drop i=w++r->WrT fr s w->s≠[]->((Stops fr r\/mo=some s.length))->(∀m,mo=some m->s.length<=m)->(∀H',SameBut p H H'->Cur H' C p t (i+w.length)->Q (.str ⟨s.toArray⟩) H')->sp_taken_filled_text K C vs H Q E
inductive sp__law_small (K:W.Frag)(vs:List V)(H:Hp)(Q:VK)(E:XK):Prop
 |mk (c:Int) (pn:Addr) (ns:List Tq):vs=[.int c,.ref pn]->H pn=some (.lst (ns.map tV))->5<=ns.length->ns.length<=100->(∀n∈ns,∀x∈n,isSg x=true)->(∀(ps:List Pc) (e:Bool) (p:Addr) (H':Hp),(∀c∈ps,PcOk c/\PcSg c)->LastR ps->NmP ns ps->ps.length<=5->(ps=[]->e=true)->Same H H'->PtAt H' ps e p->Q (.ref p) H')->sp__law_small K vs H Q E
inductive sp__law_values (K:W.Frag)(vs:List V)(H:Hp)(Q:VK)(E:XK):Prop
 |mk (cs:List Pc) (e:Bool) (p pc:Addr) (is:List Int):vs=[.ref p,.ref pc]->PtAt H cs e p->(∀c∈cs,PcOk c)->cs.length<=12->SqL K H pc (is.map V.int)->0 < is.length->is.length<=100->(∀(bs:List (Tq×Vl)) (l:Addr) (ys:List V) (H':Hp),GvA cs bs->(∀b∈bs,SmV b.2)->H l=none->FrB H H' ys->Same H H'->H' l=some (.lst ys)->BndV H' l bs ys->Q (.ref l) H')->sp__law_values K vs H Q E
inductive sp_is_pattern (K:W.Frag)(vs:List V)(H:Hp)(Q:VK)(E:XK):Prop
 |mk (cs:List Pc) (e:Bool) (v:V):vs=[v]->IsT H (ptD cs e) v->PtG cs e->(∀H',Same H H'->Q (.bl true) H')->sp_is_pattern K vs H Q E
inductive sp_read_piece (K:W.Frag)(vs:List V)(H:Hp)(Q:VK)(E:XK):Prop
 |mk (c:Pc) (t:Tq):vs=[tV t]->PcW c t->t.length<=2000->(∀(v:V) (H':Hp),Same H H'->IsT H' (pcD c) v->Q v H')->sp_read_piece K vs H Q E
inductive sp_filled_steps (K:W.Frag)(vs:List V)(H:Hp)(Q:VK)(E:XK):Prop
 |mk (c:Pc) (p pz:Addr) (ws:List (Tq×PyData)) (ys:List V) (ss:List Tq):vs=[.ref p,.ref pz]->SqT K H p c.vals->c.head.length<=100000->c.tail.length<=100000->H pz=some (.lst ys)->VlsV H ws ys->ws.length<=100000->(∀w∈ws,smallD w.2=true)->fillS c ws=.ok ss->(∀(q:Addr) (H':Hp),Same H H'->H' q=some (.lst (ss.map tV))->Q (.ref q) H')->sp_filled_steps K vs H Q E
inductive sp_lead (K:W.Frag)(vs:List V)(H:Hp)(Q:VK)(E:XK):Prop
 |mk (l pw ps:Addr) (T:List Rw) (ws:List V) (r e:Bool) (ss:List Tq):vs=[.ref l,.ref pw]->H l=some (.lst ws)->TbV H T ws->(∀t∈T,PcsOk t.2.1)->T.length<=90->H pw=some (.tup [.bl r,.ref ps,.bl e])->H ps=some (.tup (ss.map tV))->ss.length<=500->(∀s∈ss,s.length<=100000)->(T.filter (fitR r e ss)=[]->∀H',Same H H'->Q .non H')->(∀(b:Rw) (L:List Rw),T.filter (fitR r e ss)=b::L->∀(p l':Addr) (ys:List V) (H':Hp),H l'=none->Same H H'->H' p=some (.tup [tV (mostM mrR b L).1,.ref l'])->H' l'=some (.lst ys)->BndV H' l' (boundM (mostM mrR b L).2.1 ss) ys->Q (.ref p) H')->sp_lead K vs H Q E
inductive sp_taken_house (K:W.Frag)(C:Addr)(vs:List V)(H:Hp)(Q:VK)(E:XK):Prop
 |mk (p:Addr) (t w r:Tq) (i:Nat) (o:Option Tq):vs=[.ref p]->Cur H C p t i->i<=t.length->t.length<=100000->(∀c∈t,c < 128)->t.drop i=w++r->HouW o w->(o≠none->Stops [] r)->(o=none->¬ r.take 2=[47,47])->(∀H',SameBut p H H'->Cur H' C p t (i+w.length)->Q (otV o) H')->sp_taken_house K C vs H Q E
inductive sp_taken_question (K:W.Frag)(C:Addr)(vs:List V)(H:Hp)(Q:VK)(E:XK):Prop
 |mk (p:Addr) (t w rest:Tq) (i:Nat) (qs:Option (List (Tq×Option Tq))):vs=[.ref p]->Cur H C p t i->i<=t.length->t.length<=100000->(∀c∈t,c < 128)->t.drop i=w++rest->QueW qs w->((rest=[]\/∃r,rest=35::r))->(∀(u:V) (H':Hp),SameBut p H H'->Cur H' C p t (t.length - rest.length)->IsT H' (qD qs) u->Q u H')->sp_taken_question K C vs H Q E
inductive sp__law_table (K:W.Frag)(vs:List V)(H:Hp)(Q:VK)(E:XK):Prop
 |mk (a pn pl:Addr) (ns:List Int) (nm lb:List Tq) (m:Nat):vs=[.ref a,.ref pn,.ref pl,.int 3,.int (m:Int)]->SqL K H a (ns.map V.int)->H pn=some (.lst (nm.map tV))->nm.length=6->(∀n∈nm,∀x∈n,isSg x=true)->H pl=some (.lst (lb.map tV))->16<=lb.length->(∀n∈lb,∀x∈n,isSg x=true)->m<=16->(∀(T:List Rw) (ws:List V) (l:Addr) (H':Hp),H l=none->Same H H'->H' l=some (.lst ws)->TbV H' T ws->TabOk T->T.length=m->(∀t∈T,NmP nm t.2.1)->T.map (·.1)=lb.take m->(∀t∈T,t.2.1=[]->t.2.2=true)->Q (.ref l) H')->sp__law_table K vs H Q E
inductive sp_read_pattern (K:W.Frag)(vs:List V)(H:Hp)(Q:VK)(E:XK):Prop
 |mk (cs:List Pc) (e:Bool) (ws:List Tq):vs=[tV (slT true ws e)]->PcWs cs ws->(∀w∈ws,w.length<=700)->PtG cs e->(∀(v:V) (H':Hp),Same H H'->IsT H' (ptD cs e) v->Q v H')->sp_read_pattern K vs H Q E
inductive sp_filled (K:W.Frag)(vs:List V)(H:Hp)(Q:VK)(E:XK):Prop
 |mk (cs:List Pc) (xs:List V) (p q pz:Addr) (cl:Bool) (ws:List (Tq×PyData)) (ys:List V) (ss:List Tq):vs=[.ref p,.ref pz]->SqT K H p [.ref q,.bl cl]->SqT K H q xs->PcAll K H cs xs->cs.length<=100->PcSz cs->H pz=some (.lst ys)->VlsV H ws ys->ws.length<=100000->(∀w∈ws,smallD w.2=true)->fillM cs ws=.ok ss->(∀(pw qw:Addr) (H':Hp),Same H H'->H' qw=some (.tup (ss.map tV))->H' pw=some (.tup [.bl true,.ref qw,.bl cl])->Q (.ref pw) H')->sp_filled K vs H Q E
inductive sp_read (K:W.Frag)(vs:List V)(H:Hp)(Q:VK)(E:XK):Prop
 |mk (x:Ad) (t:Tq):vs=[.str ⟨t.toArray⟩]->t.length<=90000->(∀c∈t,c < 128)->x.Wf->RdW x t->(∀(u:V) (H':Hp),Same H H'->IsT H' x.data u->Q u H')->sp_read K vs H Q E
inductive sp_made (K:W.Frag)(vs:List V)(H:Hp)(Q:VK)(E:XK):Prop
 |mk (l lv:Addr) (T:List Rw) (ws:List V) (n:Tq) (wz:List (Tq×PyData)) (ys:List V) (t:Rw) (ss:List Tq):vs=[.ref l,tV n,.ref lv]->H l=some (.lst ws)->TbV H T ws->(∀t∈T,PcsOk t.2.1)->H lv=some (.lst ys)->VlsV H wz ys->wz.length<=100000->(∀w∈wz,smallD w.2=true)->T.find? (λt=>decide (t.1=n))=some t->fillM t.2.1 wz=.ok ss->(∀(pw qw:Addr) (H':Hp),Same H H'->H' qw=some (.tup (ss.map tV))->H' pw=some (.tup [.bl true,.ref qw,.bl t.2.2])->Q (.ref pw) H')->sp_made K vs H Q E
def RdOk (t:Rw):Prop:=(∀c∈t.2.1,c.isStep=false->NmOk c.name)/\(gapsM t.2.1).Nodup/\(t.2.1=[]->t.2.2=true)
inductive sp__law_read_table (K:W.Frag)(vs:List V)(H:Hp)(Q:VK)(E:XK):Prop
 |mk (l lc:Addr) (T:List Rw) (ws:List V) (is:List Int):vs=[.ref l,.ref lc]->H l=some (.lst ws)->TbV H T ws->TabOk T->T.length<=16->(∀t∈T,RdOk t)->H lc=some (.lst (is.map V.int))->is.length<=100->(∀(us:List V) (l':Addr) (H':Hp),Same H H'->H' l'=some (.lst us)->TbV H' T us->Q (.ref l') H')->sp__law_read_table K vs H Q E
inductive sp__law_led_right (K:W.Frag)(vs:List V)(H:Hp)(Q:VK)(E:XK):Prop
 |mk (l lv l0 pw qw:Addr) (T:List Rw) (ws:List V) (kk:Nat) (t:Rw) (bs:List (Tq×Vl)) (ys:List V):vs=[.ref l,.int (kk:Int),.ref lv,.ref pw]->H l=some (.lst ws)->TbV H T ws->TabOk T->T.length<=20->(T.map (·.1)).Nodup->(∀t∈T,(gapsM t.2.1).Nodup)->T[kk]?=some t->GvA t.2.1 bs->(∀b∈bs,SmV b.2)->H lv=some (.lst ys)->BndV H l0 bs ys->H pw=some (.tup [.bl true,.ref qw,.bl t.2.2])->H qw=some (.tup ((stpsM t.2.1 bs).map tV))->(∀H',Same H H'->Q (.bl true) H')->sp__law_led_right K vs H Q E
inductive sp_made_address (K:W.Frag)(vs:List V)(H:Hp)(Q:VK)(E:XK):Prop
 |mk (l lv:Addr) (T:List Rw) (ws:List V) (n:Tq) (wz:List (Tq×PyData)) (ys:List V) (x:Ad) (vb vq vm:V) (t:Rw) (ss:List Tq):vs=[.ref l,vb,tV n,.ref lv,vq,vm]->IsT H x.data vb->H l=some (.lst ws)->TbV H T ws->(∀t∈T,PcsOk t.2.1)->H lv=some (.lst ys)->VlsV H wz ys->wz.length<=100000->(∀w∈wz,smallD w.2=true)->x.scheme≠[]->T.find? (λt=>decide (t.1=n))=some t->fillM t.2.1 wz=.ok ss->(∀(p pw qw:Addr) (H':Hp),Same H H'->H' qw=some (.tup (ss.map tV))->H' pw=some (.tup [.bl true,.ref qw,.bl t.2.2])->H' p=some (.tup [tV x.scheme,otV x.house,itV x.door,.ref pw,vq,vm])->Q (.ref p) H')->sp_made_address K vs H Q E
inductive sp__law_holds (K:W.Frag)(vs:List V)(H:Hp)(Q:VK)(E:XK):Prop
 |mk (l:Addr) (T:List Rw) (ws:List V) (kk:Nat) (t:Rw) (c:Int) (x:Ad) (vb:V):vs=[.ref l,.int (kk:Int),.int c,vb]->H l=some (.lst ws)->TbV H T ws->TabOk T->T.length<=16->(T.map (·.1)).Nodup->(∀t∈T,(gapsM t.2.1).Nodup/\(t.2.1=[]->t.2.2=true))->T[kk]?=some t->IsT H x.data vb->x.Wf->x.scheme≠[]->(∀H',Same H H'->Q (.bl true) H')->sp__law_holds K vs H Q E
inductive sp_law (K:W.Frag)(vs:List V)(H:Hp)(Q:VK)(E:XK):Prop
 |mk (a:Addr) (ns:List Int):vs=[.ref a]->SqL K H a (ns.map V.int)->ns.length<=63->(∀H',Q (.bl true) H')->sp_law K vs H Q E
section
variable {H:Hp}{Q:VK}{E:XK}{K:W.Frag}
theorem DC {c:Nat}:pZ [.str ⟨[c].toArray⟩] H Q E↔c < 256/\Q (.str ⟨[126,hexd (c / 16),hexd (c % 16)].toArray⟩) H:=
 ⟨λ⟨_,e,h⟩=>by injection e with e;injection e with e;cases aR.mp e;exact h,λh=>⟨c,rfl,h⟩⟩
theorem DD {c:Nat}:pe [.str ⟨[c].toArray⟩] H Q E↔c < 128/\Q (figV c) H:=
 ⟨λ⟨_,e,h⟩=>by injection e with e;injection e with e;cases aR.mp e;exact h,λh=>⟨c,rfl,h⟩⟩
theorem DE:ph [] H Q E↔Q (.str ⟨SG.toArray⟩) H:=⟨λh=>h.2,λh=>⟨rfl,h⟩⟩
theorem DF {l:Tq}:pi [.str ⟨l.toArray⟩] H Q E↔l.length<=1000/\(∀c∈l,c < 128)/\Q (signOfL l) H:=
 ⟨λ⟨_,e,h⟩=>by injection e with e;injection e with e;cases aR.mp e;exact h,λh=>⟨l,rfl,h⟩⟩
theorem DG {l:Tq}:cu [.str ⟨l.toArray⟩] H Q E↔l.length<=2000/\(∀c∈l,isSg c=true)/\∀H',Same H H'->Q (.str ⟨(wr l).toArray⟩) H':=
 ⟨λ⟨_,e,h⟩=>by injection e with e;injection e with e;cases aR.mp e;exact h,λh=>⟨l,rfl,h⟩⟩
theorem c_sw {c:Nat}{r fr:Tq}:pj [.str ⟨(c::r).toArray⟩,.str ⟨fr.toArray⟩] H Q E↔r.length<=1000/\(∀d∈c::r,d < 128)/\(c=126\/r=[])/\Q (swV fr (c::r)) H:=
 ⟨λ⟨_,_,_,e,h⟩=>by injection e with e e2;injection e with e;injection e2 with e2;injection e2 with e2;cases aR.mp e;cases aR.mp e2;exact h,λh=>⟨c,r,fr,rfl,h⟩⟩
theorem DH {l fr:Tq}:q0 [.str ⟨l.toArray⟩,.str ⟨fr.toArray⟩] H Q E↔l.length<=2000/\(∀c∈l,c < 128)/\∀H',Same H H'->Q (undV (und fr l)) H':=
 ⟨λ⟨_,_,e,h⟩=>by injection e with e e2;injection e with e;injection e2 with e2;injection e2 with e2;cases aR.mp e;cases aR.mp e2;exact h,λh=>⟨l,fr,rfl,h⟩⟩
end
section
variable {P:Program}{w:World}{K:W.Frag}{mg:Str->Option Value}{base:Heap}(g:G w K mg)
seal PE PA PT PS PSs PG PI PF PO PW
local macro_rules|`(tactic| fail "r")=>do let i:=("L2.start map_cons map_nil length_cons length_nil Nat.reduceAdd Nat.reduceSub Nat.zero_add replicate_succ List.replicate_zero L2.vQ L2.rd_C L2.ff L2.xR L2.xQ L2.vR L2.vS L2.vT L2.vU L2.vV L2.vW L2.vX L2.vY L2.rd_B L2.vZ L2.va L2.vc L2.vd L2.ve L2.vf L2.vg L2.vh L2.vi L2.vj L2.vk L2.xT L2.xU L2.xV L2.ae L2.xW L2.xX L2.xZ L2.vn L2.vo L2.vp L2.vt L2.vv L2.vw L2.vx L2.rd_I L2.dJ L2.vy L2.aF L2.jv L2.cJ L2.wA L2.jw L2.fh L2.wR L2.wS L2.k8 L2.wU L2.k9 L2.wW L2.wX L2.wY L2.wZ L2.wa L2.wc L2.wd L2.we L2.wg L2.wm L2.wn L2.wo L2.wp L2.wq L2.wt L2.wv L2.ww L2.wy L2.x6 L2.x8 L2.x9 L2.xA L2.xB L2.xC L2.xD L2.xE L2.xF L2.xG L2.sub_tuple_tuple L2.xH L2.xK L2.xI L2.xJ L2.xL L2.cx_K L2.uz L2.vA L2.vB L2.vC L2.vE L2.fb L2.vG L2.vJ L2.vM L2.vN L2.wH L2.wI L2.wE L2.wF Option.getD_some L2.wG L2.wL L2.rd_U L2.wM L2.wN L2.xO L2.xP L2.fj L2.wB L2.wC List.set_cons_zero List.set_cons_succ nil_append cons_append append_nil Option.some.injEq exists_eq_left exists_eq_left' true_and and_true L2.V.bl.injEq L2.V.int.injEq L2.V.str.injEq L2.V.ref.injEq List.cons.injEq reduceCtorEq false_and and_false exists_false false_or or_false decide_eq_true_eq Bool.not_true Bool.not_false if_true if_false not_true_eq_false not_false_eq_true decide_true decide_false Bool.false_eq_true DC DD DE DF DG DH L2.ya L2.yh L2.yj L2.yt L2.yv L2.yy L2.yz L2.lF L2.z5 L2.z7 L2.z8 L2.z6 L2.zu L2.A3 L2.A5 L2.A7 L2.Ac L2.li L2.As L2.AW L2.Ba L2.Bf L2.Bp L2.Bq L2.C2 xn xo aU aG xp List.drop_succ_cons drop_zero L2.ut Bool.not_eq_true' decide_eq_false_iff_not".splitOn " ").toArray.map λx=>Lean.mkIdent x.toName;`(tactic| simp only[List.getElem?_cons_zero,List.getElem?_cons_succ,↓reduceIte,$[$i:ident],*])
local macro_rules|`(tactic| fail "c")=>`(tactic| exact⟨rfl,rfl,rfl,by fail "k",rfl,by fail "k",by fail "k"⟩)
set_option hygiene false
local macro_rules|`(tactic| fail "n")=>`(tactic| with_reducible first|exact nx 0|exact nx 1|exact nx 2|exact nx 3|exact nx 4|exact nx 5|exact nx 6|exact nx 7|exact nx 8|exact nx 9|exact nx 10|exact nx 11)
local macro_rules|`(tactic| fail "D")=>do let f:=λ(x:String)=>(x.splitOn " ").toArray.map λx=>Lean.mkIdent x.toName;let i1:=f "PySem.F.slot_list_append PySem.F.slot_list_extend PySem.F.slot_str_index PySem.F.slot_str_join";let i2:=f "dE jT bR bB jH bh tX jI t7";let i3:=f "aD a9 aT";let i4:=f "bi cC tZ jK bC";let i5:=f "jM jL tF vK jR ju jS t9 tG vL";let i6:=f "cE dL dD fe";let i7:=f "dF tK aj";let i8:=f "wJ vP vF jU bn";let i9:=f "bz c9 bf bg bo af fX dI bS tE";let i10:=f "k6 dM PySem.F.type_list_append PySem.F.type_list_extend PySem.F.type_str_index PySem.F.type_str_join PySem.F.plainAttrs_list PySem.F.plainAttrs_str";`(tactic| repeat' first|((with_reducible show _=_);first|exact (rfl:_=K)|decide|rfl|exact nomark _|with_unfolding_all rfl)|exact .inl rfl|exact rfl|(guard_target=PE _ _ _;first|((with_reducible apply pvG zq);fail "n")|(with_reducible first|exact aV|apply aX|apply jh|apply pxG K)|((with_reducible apply cF);assumption)|(with_reducible first|exact aO)|((with_reducible apply glD);with_reducible assumption)|((with_reducible apply cB);with_reducible assumption)|(apply hintE 2;assumption;(with_reducible first|apply cP|apply fk))|(with_reducible first|exact d8|exact sY)|((with_reducible apply aZ);exact (rfl:_=K);rotate_left;(with_reducible first $[|apply $i1:ident]*))|(with_reducible first $[|apply $i2:ident]*)|((with_reducible apply tY);with_reducible assumption)|((with_reducible apply cT);with_reducible assumption)|(with_reducible first|apply tq))|(guard_target=PA _ _ _;first|(with_reducible first|apply a8|exact aB))|(guard_target=PSs _ _ _;first|((with_reducible apply hintC);assumption)|(with_reducible first $[|apply $i3:ident]*))|(guard_target=PS _ _ _;first|((with_reducible apply hintN);assumption)|(with_reducible first|apply aQ)|((with_reducible apply sxG zq);fail "n")|(with_reducible first|apply aS)|((with_reducible apply forT K);assumption)|(with_reducible first $[|apply $i4:ident]*))|(guard_target=OpR _ _ _;first|(with_reducible first $[|apply $i5:ident]*)|(apply hintE 6;assumption;with_reducible apply k7)|(apply hintE 7;assumption;with_reducible apply wO)|(apply hintE 10;assumption;(with_reducible first|apply gH|apply Aw))|(apply hintE 2;assumption;with_reducible apply bW (K:=K))|(with_reducible first $[|apply $i6:ident]*))|(guard_target=PT _ _ _;first|(with_reducible first $[|apply $i7:ident]*)|((with_reducible apply PW.pt);with_reducible first|apply bz|apply c9|apply bf|apply bg)|(with_reducible first|apply aW))|(guard_target=CallR _ _ _;first|(apply hintE 2;assumption;(with_reducible first|apply xS|apply kB))|(with_reducible first $[|apply $i8:ident]*))|(with_reducible first $[|apply $i9:ident]*)|((with_reducible apply pgG zq);fail "n")|(apply hintE 3;assumption;with_reducible apply yZ)|(apply hintE 4;assumption;with_reducible apply xY)|(with_reducible first $[|apply $i10:ident]*)|((with_reducible show MtR _ "list.append" _);exact cI)|((with_reducible show MtR _ "list.extend" _);exact ub)|((with_reducible show MtR _ "str.index" _);exact uu)|((with_reducible apply dB);rfl;exact g.cg.1)|((with_reducible apply zt);exact (rfl:_=K);rfl;exact g.br.1)|((with_reducible apply gW);exact (rfl:_=K);rfl;exact g.eS.1)|(with_reducible first|apply cM)|decide|exact λ_=>rfl|exact λ_ _=>rfl|exact .inr rfl|exact .inr (.inl rfl)|exact .inr (.inr rfl)|exact hr|exact hr.units|exact .never)
local macro_rules|`(tactic| specialize $e)=>`(tactic| first|have:=$e (P:=P) (base:=base) g|have:=$e)
local macro_rules|`(tactic| exists $a,$[$e],*)=>`(tactic| refine⟨_,by (have zq:=$a);($[specialize $e];*);show PSs _ (_::_) _;fail "D",?_⟩)
local macro_rules|`(tactic| exists $a)=>`(tactic| refine⟨_,by (have zq:=$a);show PSs _ (_::_) _;fail "D",?_⟩)
local macro_rules|`(tactic| nomatch $t,$a,$[$e],*)=>`(tactic| refine⟨_,by (have zq:=$a);($[specialize $e];*);exact $t,?_⟩)
local macro_rules|`(tactic| nomatch $t,$a)=>`(tactic| refine⟨_,by (have zq:=$a);exact $t,?_⟩)
set_option hygiene true
theorem DI:Sc 2 ["text","signs"] (top 16):=by fail "c"
theorem qA:Sc 1 ["sign","number"] (top 17):=by fail "c"
theorem qB:Sc 1 ["figure"] (top 19):=by fail "c"
theorem qC:Sc 1 ["number","place"] (top 20):=by fail "c"
theorem qE:Sc 1 ["address"] (top 37):=by fail "c"
theorem qF:Sc 2 ["thing","count"] (top 39):=by fail "c"
theorem qG:Sc 1 ["thing"] (top 41):=by fail "c"
theorem qH:Sc 3 ["rooted","texts","ends","ahead","behind"] (top 53):=by fail "c"
theorem qI:Sc 1 ["step"] (top 60):=by fail "c"
theorem qJ:Sc 1 ["pieces"] (top 73):=by fail "c"
theorem qK:Sc 1 ["piece"] (top 76):=by fail "c"
theorem qL:Sc 1 ["gap"] (top 77):=by fail "c"
theorem qM:Sc 1 ["piece"] (top 78):=by fail "c"
theorem qN:Sc 1 ["piece"] (top 79):=by fail "c"
theorem qO:Sc 1 ["pattern","pieces"] (top 80):=by fail "c"
theorem qP:Sc 2 ["table","name","entry_name","pattern"] (top 109):=by fail "c"
theorem qQ:Sc 2 ["self","text"] (inClass (top 113) 0):=by fail "c"
theorem qR:Sc 1 ["self"] (inClass (top 113) 1):=by fail "c"
theorem qS:Sc 1 ["self","sign"] (inClass (top 113) 3):=by fail "c"
theorem qU:Sc 2 ["self","text"] (inClass (top 113) 4):=by fail "c"
theorem qV:Sc 2 ["door","cursor"] (top 118):=by fail "c"
theorem qW:Sc 2 ["_law_script","_law_k"] (top 127):=by fail "c"
theorem qX:Sc 2 ["_law_cell","_law_many","_law_letters","_law_size","_law_at","_law_names_here","_law_k","_law_name","_law_j","_law_step_here"] (top 128):=by fail "c"
theorem qY:Sc 0 ["_law_some"] (top 129):=by fail "c"
theorem qZ:Sc 1 ["_law_pattern_here"] (top 136):=by fail "c"
theorem qa:Sc 1 ["_law_piece_here"] (top 137):=by fail "c"
theorem cv:Sc 2 ["_law_pattern_here","_law_values_here","_law_known","_law_steps","_law_piece_here"] (top 139):=by fail "c"
theorem qc:Sc 2 ["_law_sign","_law_great","_law_figures"] (top 141):=by fail "c"
theorem qd:Sc 1 ["thing"] (top 15):=by fail "c"
theorem qe:Sc 1 ["figures","high","low"] (top 18):=by fail "c"
theorem DJ:Sc 1 ["text"] (top 21):=by fail "c"
theorem qf:Sc 1 ["thing"] (top 72):=by fail "c"
theorem DK:Sc 1 ["pieces"] (top 75):=by fail "c"
theorem qg:Sc 2 ["pattern","count","pieces","more"] (top 89):=by fail "c"
theorem qh:Sc 2 ["part","step","head","tail"] (top 91):=by fail "c"
theorem qi:Sc 1 ["text"] (top 92):=by fail "c"
theorem qj:Sc 1 ["text"] (top 93):=by fail "c"
theorem ql:Sc 2 ["gap","steps"] (top 94):=by fail "c"
theorem qo:Sc 2 ["gap","value"] (top 99):=by fail "c"
theorem qp:Sc 1 ["piece","head"] (top 104):=by fail "c"
theorem qr:Sc 2 ["self","signs"] (inClass (top 113) 2):=by fail "c"
theorem iq:Sc 1 ["_law_cell","_law_pool","_law_text_here","_law_k"] (top 130):=by fail "c"
theorem fF:Sc 2 ["_law_text_here","_law_cells","_law_bare","_law_found","_law_k","_law_sign","_law_cell"] (top 142):=by fail "c"
theorem qt:Sc 2 ["piece","free"] (top 23):=by fail "c"
theorem r8:Sc 1 ["thing"] (top 38):=by fail "c"
theorem r9:Sc 1 ["thing"] (top 40):=by fail "c"
theorem rA:Sc 2 ["house","door","behind"] (top 51):=by fail "c"
theorem rB:Sc 1 ["way"] (top 52):=by fail "c"
theorem rC:Sc 2 ["name","value"] (top 55):=by fail "c"
theorem rD:Sc 1 ["mark"] (top 56):=by fail "c"
theorem rE:Sc 2 ["head","tail"] (top 71):=by fail "c"
theorem rF:Sc 1 ["pieces","names"] (top 74):=by fail "c"
theorem rG:Sc 2 ["piece","step"] (top 90):=by fail "c"
theorem rH:Sc 2 ["pattern","values","names","name","value"] (top 100):=by fail "c"
theorem fG:Sc 2 ["one","other","mine","theirs"] (top 103):=by fail "c"
theorem ir:Sc 1 ["cursor","door"] (top 117):=by fail "c"
theorem iu:Sc 1 ["cursor","figures","sign"] (top 125):=by fail "c"
theorem rJ:Sc 1 ["_law_cell","_law_text_here"] (top 131):=by fail "c"
theorem rK:Sc 2 ["_law_piece_here","_law_cells"] (top 143):=by fail "c"
theorem rL:Sc 2 ["text","free","signs","place","width","sign"] (top 22):=by fail "c"
theorem rM:Sc 1 ["question"] (top 54):=by fail "c"
theorem rN:Sc 1 ["thing"] (top 70):=by fail "c"
theorem rO:Sc 2 ["pattern","way","steps","pieces"] (top 88):=by fail "c"
theorem rP:Sc 1 ["thing"] (top 98):=by fail "c"
theorem rQ:Sc 1 ["entries","best","entry"] (top 107):=by fail "c"
theorem iw:Sc 1 ["cursor","scheme"] (top 115):=by fail "c"
theorem rR:Sc 3 ["cursor","free","most","signs","allowed"] (top 124):=by fail "c"
theorem rS:Sc 2 ["_law_cell","_law_name","_law_head","_law_tail"] (top 132):=by fail "c"
theorem rT:Sc 2 ["_law_piece_here","_law_cell","_law_text_here"] (top 135):=by fail "c"
theorem ix:Sc 2 ["_law_pattern_here","_law_cells","_law_text_here"] (top 144):=by fail "c"
theorem rV:Sc 1 ["address","scheme"] (top 50):=by fail "c"
theorem rW:Sc 1 ["things"] (top 69):=by fail "c"
theorem iy:Sc 3 ["head","inside","tail","named"] (top 83):=by fail "c"
theorem rX:Sc 2 ["pattern","way","values","place","piece"] (top 87):=by fail "c"
theorem rY:Sc 2 ["gap","value"] (top 97):=by fail "c"
theorem bw:Sc 2 ["cursor","must_be_rooted","rooted","steps","ends","step"] (top 119):=by fail "c"
theorem rZ:Sc 1 ["cursor"] (top 121):=by fail "c"
theorem rc:Sc 1 ["cursor"] (top 122):=by fail "c"
theorem iz:Sc 3 ["cursor","free","most","text"] (top 123):=by fail "c"
theorem re:Sc 2 ["_law_cell","_law_names_here","_law_many","_law_pieces","_law_k"] (top 134):=by fail "c"
theorem fH:Sc 2 ["_law_pattern_here","_law_cells","_law_found","_law_k","_law_piece_here","_law_cell"] (top 138):=by fail "c"
theorem rf:Sc 1 ["thing"] (top 68):=by fail "c"
theorem fI:Sc 1 ["text","opened","closed"] (top 82):=by fail "c"
theorem j0:Sc 2 ["piece","values","named"] (top 96):=by fail "c"
theorem j3:Sc 2 ["table","way","entries","best"] (top 106):=by fail "c"
theorem rg:Sc 1 ["cursor"] (top 116):=by fail "c"
theorem fJ:Sc 1 ["cursor","name","pairs"] (top 120):=by fail "c"
theorem j4:Sc 5 ["_law_script","_law_names_here","_law_labels","_law_first","_law_many","_law_table_here","_law_k","_law_cell","_law_pattern_here","_law_pieces","_law_ends","_law_at"] (top 140):=by fail "c"
theorem fK:Sc 1 ["text","texts","ends","pieces"] (top 81):=by fail "c"
theorem rh:Sc 2 ["pattern","values","steps","piece"] (top 95):=by fail "c"
theorem j5:Sc 1 ["text","cursor","scheme","house","door","way","question","mark"] (top 114):=by fail "c"
theorem rj:Sc 3 ["table","name","values"] (top 108):=by fail "c"
theorem fL:Sc 2 ["_law_table_here","_law_cells","_law_found","_law_k","_law_pair_here","_law_text_here"] (top 145):=by fail "c"
theorem fM:Sc 4 ["_law_table_here","_law_k","_law_values_here","_law_way","_law_found","_law_places","_law_pattern_here"] (top 146):=by fail "c"
theorem rk:Sc 6 ["table","base","name","values","question","mark"] (top 110):=by fail "c"
theorem fN:Sc 4 ["_law_table_here","_law_k","_law_cell","_law_base","_law_name","_law_pattern_here","_law_values_here","_law_way","_law_text_here","_law_address","_law_shown","_law_again"] (top 147):=by fail "c"
theorem cw:Sc 1 ["_law_script","_law_many","_law_labels","_law_some","_law_table_here","_law_base","_law_k","_law_cell"] (top 148):=by fail "c"
theorem cx:g.Ck.Ok P w base 1 sp_made_of:=by
 refine lnF DI ?_;rintro mt A dl s H vs Q E hr ⟨x,y,rfl,hx,k⟩;refine⟨_,(aD (aQ (bj (bn (K:=K) rfl rfl) rfl g.bq.1 PyProof.Rows.boot_all (a8 (cmp1 ["signs"] [1] (js (pv 0)) al (dE fe (pv 0) (pv 1) (by with_unfolding_all rfl))) aB)))),?_⟩;fail "r";intro p hp;refine jy (z:=x) (aA hx) hp (λc=>.bl (decide (c∈y.cps.toList))) (λc hc H' R hR=>?_) (λH' sm ld=>?_)
 .fail "r";exact hR H' (Same.refl _)
 .refine fj.mpr ⟨x.cps.toList.map λc=>decide (c∈y.cps.toList),SqL.of (by rw[ld,map_map];rfl),?_⟩;rw[all_map];exact k H' sm
theorem DL:g.iR.Ok P w base 1 pZ:=by
 refine g.iR.F.ok qA (λvs H Q E h=>?_) (λld A dl s H vs Q E hr h=>?_)
 .obtain⟨c,rfl,_⟩:=h;rfl
 .obtain⟨c,rfl,hc,k⟩:=h
  exists qA.nd,g.iY,g.ie
  fail "r";exact⟨⟨by decide,by decide⟩,hexd (c / 16),kE,kD (by lia) (by lia),by decide,by decide,hexd (c % 16),kE,kD (by lia) (by lia),by decide,k⟩
theorem DM:g.o7.Ok P w base 1 pe:=by
 refine g.o7.F.ok qB (λvs H Q E h=>?_) (λld A dl s H vs Q E hr h=>?_)
 .obtain⟨c,rfl,_⟩:=h;rfl
 .obtain⟨a,rfl,ha,k⟩:=h
  exists qB.nd,g.oW,g.iY
  fail "r";refine ite2 (λh=>?_) (λh=>?_)
  .obtain⟨e1,e2⟩:=xb a ha h;obtain⟨n,hn⟩:=Option.isSome_iff_exists.mp e2;rw[hn] at e1;rw[cQ hn] at k;exact⟨n,[],e1,k⟩
  .refine ite2 (λh2=>?_) (λh2=>?_)
   .obtain⟨e1,e2⟩:=xc a ha h h2;obtain⟨n,hn⟩:=Option.isSome_iff_exists.mp e2;rw[hn] at e1;rw[cQ hn] at k;exact⟨n,[],e1,k⟩
   .rw[fw (xf a ha h h2)] at k;exact k
theorem DN:g.Cm.Ok P w base 1 sp_sign_numbered:=by
 refine lnF qC ?_;rintro mt A ld s H vs Q E hr ⟨n,rfl,k⟩
 exists qC.nd,g.iU,g.oU,g.oR,g.oS
 fail "r";refine ite2 (λh=>?_) (λh=>?_)
 .rw[fz (λq=>by have:=ah q;lia)] at k;exact k
 .refine ite2 (λh1=>?_) (λh1=>?_)
  .rw[fz (λq=>by have:=ah q;lia)] at k;exact k
  .refine ite2 (λh2=>?_) (λh2=>?_)
   .rw[fz (λq=>by have:=ah q;lia)] at k;exact k
   .have hs:isSg n=true:=xr (by lia) (by lia) (by lia);rw[xq hs] at k;have dl:=xg n (by lia) hs;refine ite2 (λh3=>?_) (λh3=>?_)
    .rw[if_pos (show 37 < n by lia)] at dl;refine⟨n,kF,?_,k⟩;rw[show (n:Int) - 32 - 1=((n - 32 - 1:Nat):Int) by lia];exact a0 dl
    .rw[if_neg (show ¬ 37 < n by lia)] at dl;refine⟨n,kF,?_,k⟩;rw[show (n:Int) - 32=((n - 32 - 0:Nat):Int) by lia];exact a0 dl
theorem rm:g.Co.Ok P w base 1 (sp_is_whole K):=by
 refine lnF qE ?_;rintro cdv A outer s H vs Q E hr ⟨p,l,r,rfl,hp,k⟩
 exists qE.nd,g.iZ
 fail "r";refine⟨_,_,.inr hp,yV,?_⟩;fail "r";rw[show decide ((⟨l.toArray⟩:Str)=⟨([]:Tq).toArray⟩)=decide (l=[]) from decide_eq_decide.mpr aR];exact k
theorem rn:g.Cp.Ok P w base 1 sp_is_tuple:=by
 refine lnF qF ?_;rintro ld A dl s H vs Q E hr ⟨d,v,n,rfl,hv,k⟩
 exists qF.nd,g.aK,g.av,g.au
 cases hv with
 |lst hp r=>fail "r";simp only[dO hp];fail "r";exact k
 |dic hp=>fail "r";simp only[wV hp];fail "r";exact ite2 (λz=>absurd z (by decide)) (λ_=>k)
 |tup hp r=>fail "r";simp only[cO hp];fail "r";refine⟨_,.inr (SqT.of hp),?_⟩;rw[<- r.length];exact k
 |_=>fail "r";exact k
theorem DO:g.Cq.Ok P w base 1 sp_is_whole_number:=by
 refine lnF qG ?_;rintro ld A dl s H vs Q E hr ⟨d,v,rfl,hv,k⟩
 exists qG.nd,g.ig,g.au,g.cf
 cases hv with
 |lst hp r=>fail "r";simp only[dO hp];fail "r";exact k
 |tup hp r=>fail "r";simp only[cO hp];fail "r";exact k
 |dic hp=>fail "r";exact⟨"dict",by simp only[kindV,hp],ite2 (λz=>absurd z (by decide)) (λ_=>k)⟩
 |_=>fail "r";exact k
theorem DP:g.o8.Ok P w base 1 (sp_slashed K):=by
 refine lnF qH ?_;rintro ld A dl s H vs Q E hr ⟨r,e,p,ts,rfl,hp,hl,k⟩
 exists qH.nd,g.aK,hint 0 117,hint 0 118
 have c1:ofString "/"=⟨[47].toArray⟩:=by fail "k"
 rw[c1];fail "r";refine⟨λZ H'=>H'=H/\Z=[some (.bl r),some (.ref p),some (.bl e),some (.str ⟨(if r then [47] else []:Tq).toArray⟩),none],?_,?_⟩
 .cases r with
  |true=>exact ite2 (λ_=>⟨rfl,rfl⟩) (λz=>absurd rfl z)
  |false=>exact ite2 (λz=>by cases z) (λ_=>⟨rfl,rfl⟩)
 rintro Z H' ⟨rfl,rfl⟩;fail "r";refine⟨λZ H''=>H''=H'/\Z=[some (.bl r),some (.ref p),some (.bl e),some (.str ⟨(if r then [47] else []:Tq).toArray⟩),some (.str ⟨(if e && !ts.isEmpty then [47] else []:Tq).toArray⟩)],?_,?_⟩
 .cases e with
  |false=>exact ite2 (λz=>by cases z) (λ_=>⟨rfl,rfl⟩)
  |true=>
   refine ite2 (λ_=>⟨_,.inl hp,?_⟩) (λz=>absurd rfl z);rw[length_map];cases ts with
   |nil=>exact ite2 (λz=>absurd z (by decide)) (λ_=>⟨rfl,rfl⟩)
   |cons t ts=>exact ite2 (λ_=>⟨rfl,rfl⟩) (λz=>absurd (by simp) z)
 rintro Z H'' ⟨rfl,rfl⟩;fail "r";have hj:=kt (sep:=47) ts;have h1:(if r=true then [47] else ([]:Tq)).length<=1:=by split <;> simp
 have h2:(if (e && !ts.isEmpty)=true then [47] else ([]:Tq)).length<=1:=by split <;> simp
 refine⟨ts.map λl=>⟨l.toArray⟩,by rw[map_map];exact hp,?_,?_⟩
 .rw[kz,length_map];have:(ts.map List.length).sum+ts.length<=(joinT 47 ts).length+1:=hj;lia
 rw[show (⟨#[47]⟩:Str)=⟨[47].toArray⟩ from rfl,gF];fail "r";refine⟨aA (by lia),aA (by rw[length_append];lia),?_⟩;rw[append_assoc];exact k
theorem fO:g.Cr.Ok P w base 1 sp_is_dot:=by
 refine lnF qI ?_;rintro ld A dl s H vs Q E hr ⟨s,rfl,k⟩
 exists qI.nd,g.c_UP,g.oj
 have d1:ofString ".."=⟨sUp.toArray⟩:=by fail "k"
 have d2:ofString "."=⟨sStay.toArray⟩:=by fail "k"
 fail "r";rw[d1,d2];simp only[aR];by_cases h2:s=sStay
 .rw[if_pos h2];rw[show isDot s=true by simp[isDot,h2]] at k;exact k
 .rw[if_neg h2];rw[show isDot s=decide (s=sUp) by simp[isDot,h2]] at k;exact k
theorem DQ:g.Cs.Ok P w base 1 (sp_rests_stand_last K):=by
 refine lnF qJ ?_;rintro EW A ld s H vs Q E hr ⟨cs,xs,q,rfl,hq,hx,hl,k⟩
 nomatch (aD (aQ (bj (bn (K:=K) rfl rfl) rfl g.bq.1 PyProof.Rows.boot_all (a8 (cmp1 [] [] (bE (K:=K) rfl (by fail "D")) al (pcm dD (px K (pv 0) aV) aO)) aB)))),qJ.nd,hint 3 0
 fail "r";have Cl:=hx.length;refine⟨_,hq,λp1 H1 s1 h1=>?_⟩;rw[nN] at h1;refine⟨⟨_,.of h1⟩,λp2 n2=>?_⟩;refine gT (xs:=xs.dropLast) (λi ys H'=>Same H1 H'/\ys=((cs.dropLast.take i).map λc=>!c.isRest).map V.bl) (aA (by rw[length_dropLast];lia)) ⟨aN n2,rfl⟩ (λi ys H2 hJ=>.of (hJ.1 _ _ h1)) (λi x ys H2 T dl hJ h2 hT=>?_) (λys H2 hJ h2=>?_)
 .obtain⟨s2,rfl⟩:=hJ;have hi:=(List.getElem?_eq_some_iff.mp dl).1;rw[length_dropLast] at hi;rw[List.dropLast_eq_take,List.getElem?_take_of_lt (by lia)] at dl;obtain⟨c,b,hc,rfl,BT⟩:=hx.get dl;fail "r";refine⟨_,_,.inr ((s1.trans s2).tup BT),c.at0,cJ.mpr ?_⟩;rw[bc];refine hT _ H2 h2 ⟨bL n2 s2,?_⟩;have mt:cs.dropLast[i]?=some c:=by rw[List.dropLast_eq_take,List.getElem?_take_of_lt (by lia)];exact hc
  rw[take_add_one,mt,map_append,map_append];rfl
 .obtain⟨s2,rfl⟩:=hJ;fail "r";refine⟨_,.of h2,?_⟩;have e:(((cs.dropLast.take xs.dropLast.length).map λc=>!c.isRest).all id)=restsL cs:=by
   unfold restsL;rw[length_dropLast,Cl,<- length_dropLast,take_length,all_map];rfl
  rw[e];exact k H2 (s1.trans s2)
theorem j6:g.o9.Ok P w base 1 (sp_is_gap K):=by
 refine lnF qK ?_;rintro cdv A outer s H vs Q E hr ⟨c,p,rfl,hp,k⟩
 exists qK.nd
 fail "r";refine⟨_,_,.inr hp,c.at0,?_⟩;refine L2.cJ.mpr ?_;rw[cU];exact k
theorem j7:g.iS.Ok P w base 1 (sp_name_of K):=by
 refine lnF qL ?_;rintro ld A dl s H vs Q E hr ⟨c,p,rfl,hp,hc,k⟩
 exists qL.nd
 fail "r";refine⟨_,_,.inr hp,c.at0,?_⟩;refine L2.aF.mpr ⟨_,rfl,?_⟩;rw[ao];cases c with
 |step s=>cases hc
 |part h n t=>exact ite2 (λ_=>⟨_,_,.inr hp,a0 (j:=2) rfl,k⟩) (λz=>absurd rfl z)
 |num n=>exact ite2 (λz=>by cases z) (λ_=>⟨_,_,.inr hp,a0 (j:=1) rfl,k⟩)
 |word n=>exact ite2 (λz=>by cases z) (λ_=>⟨_,_,.inr hp,a0 (j:=1) rfl,k⟩)
 |gap n=>exact ite2 (λz=>by cases z) (λ_=>⟨_,_,.inr hp,a0 (j:=1) rfl,k⟩)
 |rest n=>exact ite2 (λz=>by cases z) (λ_=>⟨_,_,.inr hp,a0 (j:=1) rfl,k⟩)
theorem cy:g.Ct.Ok P w base 1 (sp_head_of K):=by
 refine lnF qM ?_;rintro ld A dl s H vs Q E hr ⟨c,p,rfl,hp,k⟩
 exists qM.nd
 fail "r";refine⟨_,_,.inr hp,c.at0,?_⟩;refine L2.aF.mpr ⟨_,rfl,?_⟩;rw[ao];cases c with
 |part h n t=>exact ite2 (λ_=>⟨_,_,.inr hp,a0 (j:=1) rfl,k⟩) (λz=>absurd rfl z)
 |_=>exact ite2 (λz=>by cases z) (λ_=>k)
theorem cz:g.Cu.Ok P w base 1 (sp_tail_of K):=by
 refine lnF qN ?_;rintro ld A dl s H vs Q E hr ⟨c,p,rfl,hp,k⟩
 exists qN.nd
 fail "r";refine⟨_,_,.inr hp,c.at0,?_⟩;refine L2.aF.mpr ⟨_,rfl,?_⟩;rw[ao];cases c with
 |part h n t=>exact ite2 (λ_=>⟨_,_,.inr hp,a0 (j:=3) rfl,k⟩) (λz=>absurd rfl z)
 |_=>exact ite2 (λz=>by cases z) (λ_=>k)
theorem DR:g.Cv.Ok P w base 1 (sp_has_rest K):=by
 refine lnF qO ?_;rintro mt A dl s H vs Q E hr ⟨cs,xs,p,q,e,rfl,hp,hq,hx,hn,k⟩
 exists qO.nd,g.aK,g.bP
 fail "r";refine⟨_,_,.inr hp,a0 (j:=0) rfl,?_⟩;fail "r";refine⟨xs,.inr hq,?_⟩;have hl:=hx.length;by_cases h0:cs=[]
 .subst h0;refine ite2 (λz=>?_) (λ_=>k);rw[hl] at z;simp at z
 obtain⟨c,hc⟩:∃c,cs.getLast?=some c:=⟨_,List.getLast?_eq_some_getLast h0⟩;have hr:hasRest cs=c.isRest:=by unfold hasRest;rw[hc]
 obtain⟨v,hv,pc,rfl,ld⟩:=hx.last hc;refine ite2 (λ_=>?_) (λz=>absurd (show (0:Int) < (xs.length:Int) by rw[hl];have:=length_pos_iff.mpr h0;lia) z);refine⟨_,_,.inr hq,hv,?_⟩;fail "r";refine⟨_,_,.inr ld,c.at0,?_⟩;refine L2.aF.mpr ?_;rw[bc,<- hr];exact k
theorem DS:g.Cw.Ok P w base 1 (sp_pattern_named K):=by
 refine lnF qP ?_;rintro EX A mt s H vs Q E hr ⟨l,T,ws,n,t0,rfl,hl,hT,ld,k⟩
 exists qP.nd,hint 1 314
 fail "r";have EW:=hT.length;refine⟨⟨_,.of hl⟩,?_⟩;refine fi (xs:=ws) (λi Z H'=>Same H H'/\Ex2 λ(v2 v3:Option V)=>Z=[some (.ref l),some (tV n),v2,v3]/\(T.drop i).find? (λt=>decide (t.1=n))=some t0) ⟨Same.refl _,none,none,rfl,ld⟩ (λi Z H' _ h=>.of (h.1 _ _ hl)) ?_ ?_
 .rintro i v Z H1 hv ⟨s1,v2,v3,rfl,dl⟩;obtain⟨t,ht,a',p',rfl,Cl,BT⟩:=hT.get hv;rw[l7 ht,List.find?_cons] at dl;fail "r";refine⟨a',_,rfl,.of (s1 _ _ Cl),rfl,_,_,rfl,_,_,rfl,rfl,?_⟩;fail "r";refine ite2 (λh=>?_) (λh=>⟨s1,_,_,⟨rfl,rfl⟩,by rw[decide_eq_false (λz=>h (by rw[z]))] at dl;exact dl⟩);rw[decide_eq_true (aR.mp h)] at dl;cases dl;exact k p' H1 s1 (BT.mono s1.toT)
 rintro Z H1 ⟨s1,v2,v3,rfl,dl⟩;rw[EW,drop_length] at dl;cases dl
theorem DT:FnOk P w K mg base CX0 1 g.eU g.eV ["self","text"] (sp_Cursor___init__ K g.aH):=by
 refine lnT (g.pA.ok qQ) ?_;rintro ld A dl s H vs Q E hr ⟨p,dx,t,rfl,hp,k⟩
 exists qQ.nd
 fail "r";refine⟨p,_,dx,_,rfl,hp,g.aI,g.bJ,by show 0 < 1000;decide,?_⟩;refine⟨p,_,dx,_,rfl,aC,g.aI,g.ai,by show 1 < 1000;decide,?_⟩;have h:ofString "text" ≠ ofString "place" := by fail "k"
 rw[sS];refine k _ dP ⟨dx,?_⟩;rw[aC];simp only[putF,if_neg h];rfl
theorem rp:FnOk P w K mg base CX0 1 g.eW g.eY ["self"] (sp_Cursor_at_end K g.aH):=by
 refine lnT (g.pC.ok qR) ?_;rintro mt A ld s H vs Q E hr ⟨p,t,i,rfl,⟨dx,hp⟩,hl,k⟩
 exists qR.nd,g.aK
 have dl:Cur H g.aH p t i:=⟨dx,hp⟩;fail "r";refine bG dl g.aI g.ai (bZ dl g.aI g.bJ ?_);fail "r";refine⟨aA hl,?_⟩;rw[show decide ((i:Int)=(t.length:Int))=decide (i=t.length) from decide_eq_decide.mpr (by lia)];exact k
theorem d7:FnOk P w K mg base CX0 1 g.ee g.eg ["self"] (sp_Cursor_take K g.aH):=by
 refine lnT (g.pE.ok qS) ?_;rintro mt A ld s H vs Q E hr ⟨p,t,i,c,rfl,⟨dx,hp⟩,hc,hl,k⟩
 exists qS.nd
 have dl:Cur H g.aH p t i:=⟨dx,hp⟩;fail "r";refine bZ dl g.aI g.bJ (bG dl g.aI g.ai ?_);fail "r";refine⟨c,aA hl,a0 hc,?_⟩;refine bG dl g.aI g.ai ?_;fail "r";exact lI dl g.aI g.ai (i+1) (by lia) λH' sb h=>k H' sb h
theorem ay {K:W.Frag}{C p:Addr}{H:Hp}{Q:VK}{E:XK}{t w r:Tq}{i:Nat}(h:Cur H C p t i)(hi:i<=t.length)(hl:t.length<=100000)(hd:t.drop i=w++r)(k:∀H',SameBut p H H'->Cur H' C p t (i+w.length)->i+w.length<=t.length->t.drop (i+w.length)=r->Q (.bl true) H'):sp_Cursor_passes K C [.ref p,.str ⟨w.toArray⟩] H Q E:=
 ⟨p,t,w,i,rfl,h,hi,hl,λ_ H' s c=>k H' s c (by have:=congrArg List.length hd;rw[length_drop,length_append] at this;lia) (by rw[<- drop_drop,hd,drop_left]),λz=>absurd (by rw[hd,take_left]) z⟩
theorem j8 {K:W.Frag}{C p:Addr}{H:Hp}{Q:VK}{E:XK}{t w:Tq}{i:Nat}(h:Cur H C p t i)(hi:i<=t.length)(hl:t.length<=100000)(hn:¬ (t.drop i).take w.length=w)(k:Q (.bl false) H):sp_Cursor_passes K C [.ref p,.str ⟨w.toArray⟩] H Q E:=
 ⟨p,t,w,i,rfl,h,hi,hl,λz=>absurd z hn,λ_=>k⟩
theorem be {K:W.Frag}{C p:Addr}{H:Hp}{Q:VK}{E:XK}{t r:Tq}{i c:Nat}(h:Cur H C p t i)(hi:i<=t.length)(hl:t.length<=100000)(hd:t.drop i=r)(hn:r.head?≠some c)(k:Q (.bl false) H):sp_Cursor_passes K C [.ref p,.str ⟨[c].toArray⟩] H Q E:=
 j8 h hi hl (λz=>hn (by rw[hd] at z;cases r with|nil=>cases z|cons d r=>rw[(List.cons.inj z).1];rfl)) k
theorem b9:FnOk P w K mg base CX0 1 g.eh g.ek ["self","text"] (sp_Cursor_passes K g.aH):=by
 refine lnT (g.pF.ok qU) ?_;rintro mt A ld s H vs Q E hr ⟨p,t,w,i,rfl,⟨dx,hp⟩,hi,hl,k1,k2⟩
 nomatch (a9 (aS (aj (aW (aZ (K:=K) rfl PySem.F.plainAttrs_str PySem.F.slot_str_startswith PySem.F.type_str_startswith yx (by fail "D") (a8 (pv 1) (a8 (by fail "D") aB)))))
    (by fail "D") aT)
   (a9 (by fail "D")
   (aD (by fail "D")))),qU.nd,g.aK
 have dl:Cur H g.aH p t i:=⟨dx,hp⟩;fail "r";refine bZ dl g.aI g.bJ ⟨rfl,bG dl g.aI g.ai ?_⟩;fail "r";have e:=gK t w i hi;rw[aG,aG] at e;rw[e];by_cases h:(t.drop i).take w.length=w
 .rw[decide_eq_true h,if_neg (by decide)];refine bG dl g.aI g.ai ?_;fail "r";exact⟨aA (by have:=congrArg List.length h;rw[length_take,length_drop] at this;lia),lI dl g.aI g.ai (i+w.length) (by lia) λH' sb h'=>k1 h H' sb h'⟩
 .rw[decide_eq_false h,if_pos rfl];exact k2 h
theorem DU:g.Cy.Ok P w base 1 (sp_door_with K g.aH):=by
 refine lnF qV ?_;rintro Cl A ld s H vs Q E hr ⟨p,t,i,c,n,rfl,dl,hl,hc,mt,BT,hn,k⟩
 nomatch (aD (aQ (aX (dL (K:=K) rfl) (by fail "D") (bU gJ rfl g.cf.1 fc (a8 (by fail "D") aB))))),qV.nd
 fail "r";refine⟨.inl ⟨by lia,by lia⟩,bZ dl g.aI g.bJ (bG dl g.aI g.ai ?_)⟩;fail "r";refine⟨c,aA hl,a0 hc,_,by show 1<=640;decide,lQ c (by lia) mt,?_⟩;rw[show (n:Int) * 10+((c - 48:Nat):Int)=((n * 10+(c - 48):Nat):Int) by lia];exact k
theorem rq:g.Cz.Ok P w base 1 (sp__law_cell_at K):=by
 refine lnF qW ?_;rintro ld A dl s H vs Q E hr ⟨a,ns,i,rfl,hS,k⟩
 exists qW.nd,g.aK
 fail "r";refine⟨ns.map V.int,.inl hS,ite2 (λh=>?_) (λh=>?_)⟩
 .rw[length_map] at h;exact⟨ns.map V.int,_,.inl hS,xy (by lia),k⟩
 .rw[length_map] at h;rw[List.getD_eq_getElem?_getD,List.getElem?_eq_none (by lia)] at k;exact k
theorem DV:g.CA.Ok P w base 1 (sp__law_names K):=by
 refine lnF qX ?_;rintro Fj A EZ s H vs Q E hr ⟨c,m,rfl,hm,k⟩
 exists qX.nd,hint 2 0,hint 0 438,hint 0 436,hint 0 441
 have eL:ofString "abcdefghijklmnopqrstuvwxyz"=⟨smaL.toArray⟩:=by unfold smaL;simp
 rw[eL];fail "r";refine⟨by decide,⟨by decide,by decide⟩,by lia,by decide,λp H1 n1 s1 e1=>⟨by lia,by lia,?_⟩⟩;rw[Int.toNat_natCast];obtain⟨sz,Fa,Fi,Fh⟩:∃sz:Nat,1+c % 7=(sz:Int)/\1<=sz/\sz<=7:=⟨(1+c % 7).toNat,by lia,by lia,by lia⟩;rw[Fa];obtain⟨dl,ha,Fg⟩:∃a:Nat,c / 7 % (sz:Int)=(a:Int)/\a < sz:=by have h1:=Int.emod_nonneg (c / 7) (show (sz:Int)≠0 by lia);have h2:=Int.emod_lt_of_pos (c / 7) (show 0 < (sz:Int) by lia);exact⟨(c / 7 % (sz:Int)).toNat,by lia,by lia⟩
 rw[ha];obtain⟨X,hX⟩:∃X:Int,X=c / (49+11 * (dl:Int))+3 * (dl:Int) * (dl:Int):=⟨_,rfl⟩;refine cK (λi Z H'=>Ex5 λ(ns:List Tq) (v6 v7 v8 v9:Option V)=>Z=[some (.int c),some (.int (m:Int)),some (tV smaL),some (.int (sz:Int)),some (.int (dl:Int)),some (.ref p),v6,v7,v8,v9]/\ns.length=i/\(∀n∈ns,0 < n.length/\n.length<=8/\n.all isSma=true)/\(∀(k:Nat) (n:Tq),ns[k]?=some n->NmAt X dl k n)/\Same H H'/\H' p=some (.lst (ns.map tV))) ⟨[],none,none,none,none,rfl,rfl,by simp,(λk n h=>by cases h),s1,e1⟩ ?_ ?_
 .rintro i Z H2 hi ⟨ns,v6,v7,v8,v9,rfl,hl,Cl,EW,s2,e2⟩;fail "r";refine⟨λZ H3=>H3=H2/\Ex3 λ(l:Tq) (v8 v9:Option V)=>l.length=sz/\NmAt X dl i l/\l.all isSma=true/\Z=[some (.int c),some (.int (m:Int)),some (tV smaL),some (.int (sz:Int)),some (.int (dl:Int)),some (.ref p),some (.int (0+(i:Int))),some (tV l),v8,v9],?_,?_⟩
  .refine⟨by lia,by lia,?_⟩;rw[Int.toNat_natCast];refine cK (λj Z H3=>H3=H2/\∃(l:Tq) (v8 v9:Option V),l.length=j/\(dl < j->NmAt X dl i l)/\l.all isSma=true/\Z=[some (.int c),some (.int (m:Int)),some (tV smaL),some (.int (sz:Int)),some (.int (dl:Int)),some (.ref p),some (.int (0+(i:Int))),some (tV l),v8,v9]) ⟨rfl,[],_,_,rfl,(λz=>absurd z (by lia)),rfl,rfl⟩ ?_ (λZ H3 ⟨h1,l,v8,v9,h2,h3,h4,h5⟩=>⟨h1,l,v8,v9,h2,h3 Fg,h4,h5⟩);rintro j Z H3 hj ⟨rfl,l,v8,v9,EX,mt,BT,rfl⟩;fail "r";refine⟨.inl ⟨by decide,by decide⟩,⟨by lia,by lia⟩,.inl ⟨by decide,by decide⟩,.inr ⟨by lia,by lia⟩,?_⟩;refine⟨λZ H4=>H4=H3/\∃x:Int,(j=dl->x=X+(i:Int))/\Z=[some (.int c),some (.int (m:Int)),some (tV smaL),some (.int (sz:Int)),some (.int (dl:Int)),some (.ref p),some (.int (0+(i:Int))),some (tV l),some (.int (0+(j:Int))),some (.int x)],?_,?_⟩
   .refine ite2 (λz=>⟨rfl,_,λe=>?_,rfl⟩) (λz=>⟨rfl,_,λe=>absurd (by rw[e];lia) z,rfl⟩);rw[hX,e,Int.zero_add,Int.zero_add]
   rintro Z H4 ⟨rfl,x,hx,rfl⟩;obtain⟨d,hd,EY⟩:=m5 x;fail "r";refine⟨by decide,d,by fail "k",hd,aA (by lia),l++[d],_,_,by rw[length_append,length_singleton,EX],λz=>?_,by rw[all_append,BT];simp[EY],rfl,rfl,rfl⟩;by_cases ej:j=dl
   .rw[hx ej] at hd;exact⟨d,by rw[List.getElem?_append_right (by lia),EX,ej,Nat.sub_self];rfl,hd⟩
   .exact (mt (by lia)).app
  rintro Z H3 ⟨rfl,l,v8,v9,EX,mt,BT,rfl⟩;fail "r";refine⟨λZ H4=>H4=H3/\∃(l:Tq),(0 < l.length/\l.length<=8/\l.all isSma=true)/\NmAt X dl i l/\Z=[some (.int c),some (.int (m:Int)),some (tV smaL),some (.int (sz:Int)),some (.int (dl:Int)),some (.ref p),some (.int (0+(i:Int))),some (tV l),v8,v9],?_,?_⟩
  .have ld:H3=H3/\∃(l':Tq),(0 < l'.length/\l'.length<=8/\l'.all isSma=true)/\NmAt X dl i l'/\[some (V.int c),some (.int (m:Int)),some (tV smaL),some (.int (sz:Int)),some (.int (dl:Int)),some (.ref p),some (.int (0+(i:Int))),some (tV l),v8,v9]=[some (V.int c),some (.int (m:Int)),some (tV smaL),some (.int (sz:Int)),some (.int (dl:Int)),some (.ref p),some (.int (0+(i:Int))),some (tV l'),v8,v9]:=⟨rfl,l,⟨by lia,by lia,BT⟩,mt,rfl⟩;refine⟨⟨by decide,by decide⟩,by decide,ite2 (λ_=>⟨by decide,ite2 (λ_=>?_) (λ_=>ld)⟩) (λ_=>ld)⟩;obtain⟨d,hd,EY⟩:=m5 (c / 686);refine⟨⟨by decide,by decide⟩,by decide,d,by fail "k",hd,aA (by lia),rfl,l++[d],⟨by rw[length_append,length_singleton];lia,by rw[length_append,length_singleton];lia,by rw[all_append,BT];simp[EY]⟩,mt.app,?_⟩;simp
  rintro Z H4 ⟨rfl,l2,Fc,Fb,rfl⟩;fail "r";refine⟨⟨_,.of e2⟩,_,e2,by rw[length_map];exact Nat.lt_of_le_of_lt (show ns.length<=26 by lia) (by decide),ns++[l2],_,_,_,_,⟨rfl,rfl,rfl,rfl⟩,by rw[length_append,length_singleton,hl],λn hn=>?_,λk n hk=>?_,bL n1 s2,by rw[aC,map_append];rfl⟩;rcases mem_append.mp hn with z|z
  .exact Cl n z
  .rw[mem_singleton.mp z];exact Fc
  .by_cases Ff:k < ns.length
   .rw[List.getElem?_append_left Ff] at hk;exact EW k n hk
   .rw[List.getElem?_append_right (by lia)] at hk;have Fe:k - ns.length=0:=by
     cases hh:k - ns.length with
     |zero=>rfl
     |succ z=>rw[hh] at hk;cases hk
    rw[Fe] at hk;cases hk;rw[show k=i by lia];exact Fb
 .rintro Z H2 ⟨ns,v6,v7,v8,v9,rfl,hl,Cl,EW,s2,e2⟩;fail "r";exact k ns p H2 hl Cl (Aq EW (by lia)) s2 e2
theorem DW:g.ce.Ok P w base 1 ph:=by
 refine g.ce.F.ok qY (λvs H Q E h=>?_) (λld A dl s H vs Q E hr h=>?_)
 .obtain⟨rfl,_⟩:=h;rfl
 .obtain⟨rfl,k⟩:=h
  exists qY.nd
  fail "r";rw[show ofString " !\"#$&'()*+,-./0123456789:;<=>?@ABCDEFGHIJKLMNOPQRSTUVWXYZ" ++ ofString "[\\]^_`abcdefghijklmnopqrstuvwxyz{|}~"=⟨SG.toArray⟩ by fail "k"];exact⟨by fail "k",k⟩
theorem DX:g.CB.Ok P w base 1 (sp__law_gaps K):=by
 refine lnF qZ ?_;rintro EW A ld s H vs Q E hr ⟨cs,e,p,rfl,⟨q,xs,hp,hq,hx⟩,Cl,k⟩
 nomatch (aD (aQ (cmp1 [] [] (bE (K:=K) rfl (by fail "D")) (cL (ptm dD (px K (pv 0) aV) aO)) (pv 0)))),qZ.nd
 fail "r";have BT:=hx.length;refine⟨_,_,.inr (.of hp),a0 (j:=0) rfl,q,rfl,⟨_,.of hq⟩,λl nl=>?_⟩;refine mB (λi=>((cs[i]?.map λc=>!c.isStep)).getD false) (λi=>xs[i]?.getD .non) (.of hq) (aA (by lia)) nl (λi x dl H1 R s1 hR=>?_) (λi x dl ht H1 T s1 hT=>?_) (λH1 s1 mt=>?_)
 .obtain⟨c,b,hc,rfl,hb⟩:=hx.get dl;rw[hc] at hR;fail "r";refine⟨_,_,.inr (.of (s1 _ _ hb)),c.at0,cJ.mpr ⟨_,rfl,?_⟩⟩;rw[cU];exact hR H1 (Same.refl _)
 .rw[dl] at hT;fail "r";exact hT H1 (Same.refl _)
 .refine k l _ H1 nl s1 mt ?_;have:=(hx.mono s1.toT).pick ((List.range xs.length).filter λi=>((cs[i]?.map λc=>!c.isStep)).getD false) (λi hi=>mem_range.mp (mem_filter.mp hi).1);have e:=gd (λc:Pc=>!c.isStep) (λc=>c) (Pc.gap []) cs;rw[List.map_id',<- BT] at e;rw[<- e];have e2:(((List.range xs.length).filter λi=>((cs[i]?.map λc=>!c.isStep)).getD false).map λi=>(cs[i]?.map λc=>c).getD (Pc.gap []))=((List.range xs.length).filter λi=>((cs[i]?.map λc=>!c.isStep)).getD false).map λi=>cs[i]?.getD (Pc.gap []):=by
   apply map_congr_left;intro i _;rw[Option.map_id']
  rw[e2];exact this
theorem DY:g.CC.Ok P w base 1 (sp__law_name_of K):=by
 refine lnF qa ?_;rintro mt A dl s H vs Q E hr ⟨c,p,rfl,hp,ld,k⟩
 exists qa.nd
 fail "r";refine⟨_,_,.inr hp,c.at0,?_⟩;refine L2.aF.mpr ⟨_,rfl,?_⟩;rw[ao];cases c with
 |part h n t=>exact ite2 (λ_=>⟨_,_,.inr hp,a0 (j:=2) rfl,k⟩) (λz=>absurd rfl z)
 |step w=>cases ld
 |_=>exact ite2 (λz=>by cases z) (λ_=>⟨_,_,.inr hp,a0 (j:=1) rfl,k⟩)
theorem DZ:g.CD.Ok P w base 1 (sp__law_filled K):=by
 refine lnF cv ?_;rintro Fm A EX s H vs Q E hr ⟨cs,e,p,l,l0,bs,ys,rfl,⟨q,xs,hp,hq,hx⟩,EY,Fj,Fk,hG,Fg,hl,hB,k⟩
 nomatch (a9 (sx 2 cv.nd (bU (Bx rfl) rfl g.oy.1 By (a8 (pv 1) aB)))
   (a9 (by fail "D")
   (a9 (bC PassesOwn.never rfl (bE (K:=K) rfl (by fail "D")) (pgn 4 cv.nd)
   (aD (aS (by fail "D")
    (by fail "D") (aD (aS (by fail "D")
    (aD (bi (aZ (K:=K) rfl PySem.F.plainAttrs_list PySem.F.slot_list_append PySem.F.type_list_append cI (pv 3) (a8 (aX (bW (K:=K)) (aX (bW (K:=K)) (by fail "D") (i8 hr.units1 (pv 2) (by fail "D") (λ_ _=>rfl))) (by fail "D")) aB)))) (aD (aS (by fail "D")
    (aD (sx 3 cv.nd (aX (bW (K:=K)) (pv 3) (i8 hr.units1 (pv 2) (by fail "D") (λ_ _=>rfl))))) (aD (bi (aZ (K:=K) rfl PySem.F.plainAttrs_list PySem.F.slot_list_append PySem.F.type_list_append cI (pv 3) (a8 (bU BG rfl g.b8.1 vH (a8 (i8 hr.units1 (pv 2) (by fail "D") (λ_ _=>rfl)) aB)) aB)))))))))))
   (aD (by fail "D"))))),cv.nd,hint 2 0,g.av
 fail "r";have Fb:=hx.length;have hyl:=hB.length;have Ff:=hG.names;have Fl:bs.length<=12:=by have h1:=cW cs;rw[<- Ff,length_map] at h1;lia
 obtain⟨dl,a1,a2,a3,a4⟩:=hB.kvs;have Fa:(dl.map (·.1)).Nodup:=by rw[a1,show (bs.map λb=>(Sum.inr ⟨b.1.toArray⟩:Key))=(gapsM cs).map (λn=>(Sum.inr ⟨n.toArray⟩:Key)) by rw[<- Ff,map_map];rfl];exact List.Pairwise.map _ (λa b h z=>h (by injection z with z;exact aR.mp z)) Fg
 refine⟨l,ys,dl,rfl,hl,a2,by lia,a3,λd nd=>?_⟩;have s1:Same H (upd H d (.dK (mergeK [] dl))):=aN nd;have EZ:(upd H d (.dK (mergeK [] dl))) d=some (.dK (mergeK [] dl)):=aC;generalize upd H d (.dK (mergeK [] dl))=H1 at s1 EZ;refine⟨by decide,λlz H2 n2 s2 Fi=>⟨_,_,.inr (.of ((s1.trans s2) _ _ hp)),a0 (j:=0) rfl,q,rfl,⟨_,.of ((s1.trans s2) _ _ hq)⟩,?_⟩⟩;refine kA (xs:=xs) (λi Z H'=>Same H1 H'/\∃(lz:Addr) (b1 b2:List (Tq×Vl)) (v4:Option V),Z=[some (.ref p),some (.ref l),some (.ref d),some (.ref lz),v4]/\H1 lz=none/\bs=b1++b2/\GvA (cs.take i) b1/\GvA (cs.drop i) b2/\H' lz=some (.lst ((stpsM (cs.take i) b1).map tV))) ⟨s2,lz,[],bs,none,rfl,n2,rfl,.nil,hG,Fi⟩ (λi Z H' _ h=>.of ((s1.trans h.1) _ _ hq)) ?_ ?_;rotate_left
 .rintro Z H3 ⟨s3,lz,b1,b2,v4,rfl,n3,eb,g1,g2,ld⟩;rw[Fb,drop_length] at g2;cases g2;rw[Fb,take_length] at ld;rw[append_nil] at eb;subst eb;fail "r";refine⟨_,.inl (.of ld),λtp H4 s4 ht=>⟨_,_,.inr (.of ((s1.trans (s3.trans s4)) _ _ hp)),a0 (j:=1) rfl,by decide,λpw H5 n5 s5 e5=>k pw tp H5 (s1.trans (s3.trans (s4.trans s5))) e5 (s5 _ _ ht)⟩⟩
 rintro i v Z H3 hv ⟨s3,lz,b1,b2,v4,rfl,n3,eb,g1,g2,ld⟩;obtain⟨c,b,hc,rfl,hb⟩:=hx.get hv;have hi:i < cs.length:=(List.getElem?_eq_some_iff.mp hc).1;have mt:=(s1.trans s3) _ _ hb;have co:=EY c (mem_of_getElem? hc);rw[l7 hc] at g2;have et:cs.take (i+1)=cs.take i++[c]:=by rw[take_add_one,hc];rfl
 have gA:=cY g1 (λc hc=>EY c (mem_of_mem_take hc)) (BD Fj i);have Fc:(stpsM (cs.take i) b1).length<=100:=by have:=gA.mx;rw[length_take] at this;lia
 have Fh:((stpsM (cs.take i) b1).map tV).length < sizeLine:=by rw[length_map];exact Nat.lt_of_le_of_lt Fc (by decide)
 have one:∀{s:Tq}{b1' b2':List (Tq×Vl)},bs=b1'++b2'->GvA (cs.take (i+1)) b1'->GvA (cs.drop (i+1)) b2'->stpsM (cs.take (i+1)) b1'=stpsM (cs.take i) b1++[s]->∃zs,H3 lz=some (.lst zs)/\zs.length < sizeLine/\Same H1 (upd H3 lz (.lst (zs++[tV s])))/\∃(lz_1:Addr) (b1 b2:List (Tq×Vl)) (v4:Option V),(lz=lz_1/\some (V.ref b)=v4)/\H1 lz_1=none/\bs=b1++b2/\GvA (cs.take (i+1)) b1/\GvA (cs.drop (i+1)) b2/\upd H3 lz (.lst (zs++[tV s])) lz_1=some (.lst ((stpsM (cs.take (i+1)) b1).map tV)):=λh1 h2 h3 h4=>⟨_,ld,Fh,bL n3 s3,lz,_,_,_,⟨rfl,rfl⟩,n3,h1,h2,h3,by rw[aC,h4,map_append];rfl⟩;fail "r";refine⟨_,_,.inr (.of mt),c.at0,aF.mpr ⟨_,rfl,?_⟩⟩;rw[cU];refine ite2 (λh1=>?_) (λh1=>⟨_,_,.inr (.of mt),c.at0,aF.mpr ⟨_,rfl,?_⟩⟩)
 .obtain⟨w,rfl⟩:=BH h1;cases g2 with
   |gap z _ _=>cases z
   |step g2=>exact⟨⟨_,.of ld⟩,_,_,.inr (.of mt),a0 (j:=1) rfl,one eb (by rw[et];exact g1.snocS) g2 (by rw[et];exact (nG g1).1 w)⟩
 rw[ao];cases g2 with
 |step g2=>exact absurd rfl h1
 |@gap _ x _ b2 cst gx g2=>
  obtain⟨w,w1,w2⟩:=a4 (c.name,x) (by rw[eb];simp);have hg:valV (mergeK [] dl) (Sum.inr ⟨c.name.toArray⟩)=some w:=nD dl [] _ w Fa w1;have EW:DGet H3 d (tV c.name) (some w):=by rw[<- hg];exact DGet.k (k:=Sum.inr (⟨c.name.toArray⟩:Str)) (s3 _ _ EZ)
  have Cl:bs=(b1++[(c.name,x)])++b2:=by rw[eb];simp
  have BT:GvA (cs.take (i+1)) (b1++[(c.name,x)]):=by rw[et];exact g1.snoc cst gx
  have es:stpsM (cs.take (i+1)) (b1++[(c.name,x)])=stpsM (cs.take i) b1++stM c x:=by rw[et];exact (nG g1).2 c _ cst
  refine ite2 (λh2=>?_) (λh2=>⟨_,_,.inr (.of mt),c.at0,aF.mpr ⟨_,rfl,?_⟩⟩)
  .obtain⟨a,n,t,rfl⟩:=BI h2
   .obtain⟨s,rfl,y1,y2,y3,y4⟩:=gx;obtain⟨o1,o2,o3,o4,o5⟩:=co;cases w2;refine⟨⟨_,.of ld⟩,_,_,.inr (.of mt),a0 (j:=1) rfl,_,_,.inr (.of mt),a0 (j:=2) rfl,d,_,rfl,EW,ae.mpr ⟨aA (by rw[aG,aG];lia),_,_,.inr (.of mt),a0 (j:=3) rfl,?_⟩⟩;rw[aU];refine ae.mpr ⟨aA (by rw[aG,aG,length_append];lia),?_⟩;rw[aU];exact one Cl BT g2 es
  rw[bc];refine ite2 (λh5=>?_) (λh5=>⟨⟨_,.of ld⟩,_,_,.inr (.of mt),a0 (j:=1) (v:=tV c.name) ?_,d,_,rfl,EW,?_⟩)
  .obtain⟨n,rfl⟩:=BJ h5
   .obtain⟨ls,rfl,y1,y2,y3⟩:=gx;obtain⟨qq,rfl,Fe⟩:=w2;refine⟨_,_,.inr (.of mt),a0 (j:=1) rfl,d,_,rfl,EW,.inl ⟨_,_,ld,(s1.trans s3) _ _ Fe,aA (by rw[length_map,length_map];lia),λp4 H4 n4 s4 e4=>⟨s3.trans s4,p4,_,_,_,⟨rfl,rfl⟩,eC s3 n4,Cl,BT,g2,?_⟩⟩⟩;rw[e4,es,map_append];rfl
  .exact BL h1 h2
  rcases BK h1 h2 h5 with⟨n,rfl⟩|⟨n,rfl⟩|⟨n,rfl⟩
  .obtain⟨z,rfl,z0,z1⟩:=gx;cases w2;refine .inl ⟨z,rfl,?_,one Cl BT g2 es⟩;by_cases h0:z.natAbs=0
   .rw[h0];decide
   .rw[Nat.log2_lt h0];have:z.natAbs < 10 ^ 60:=by lia
    exact Nat.lt_of_lt_of_le this (by fail "k")
  .obtain⟨s,rfl,_⟩:=gx;cases w2;exact .inr ⟨_,rfl,one Cl BT g2 (by rw[es];show _++[[]++s++[]]=_;simp)⟩
  .obtain⟨s,rfl,_⟩:=gx;cases w2;exact .inr ⟨_,rfl,one Cl BT g2 (by rw[es];show _++[[]++s++[]]=_;simp)⟩
theorem E1:g.CF.Ok P w base 1 sp__law_pair:=by
 refine lnF qc ?_;rintro BT A ld s H vs Q E hr ⟨c,gr,rfl,hc,k⟩
 exists qc.nd,g.ie,hint 0 534
 have l:=ah hc;fail "r";obtain⟨fg,dl⟩:∃fg:Nat->Nat,fg=(if gr then (λn=>if n < 10 then 48+n else 55+n) else hexd):=⟨_,rfl⟩;have hk:sgO (fg (c / 16)) (fg (c % 16))=some c:=by
  rw[dl];cases gr
  .exact kO hc
  .exact zi hc
 refine⟨λZ H1=>H1=H/\∃z:Str,Z=[some (.str ⟨#[c]⟩),some (.bl gr),some (.str z)]/\z.length=16/\∀n,n < 16->z.cps.toList[n]?=some (fg n),?_,?_⟩
 .rw[dl];cases gr
  .exact⟨rfl,_,rfl,by fail "k",zj⟩
  .exact⟨rfl,_,rfl,by fail "k",zk⟩
 rintro Z H1 ⟨rfl,z,rfl,hz,hg⟩;fail "r";have a1:atI z.cps.toList ((c:Int) / 16)=some (fg (c / 16)):=by rw[show (c:Int) / 16=((c / 16:Nat):Int) by lia];exact a0 (hg (c / 16) (by lia))
 have a2:atI z.cps.toList ((c:Int) % 16)=some (fg (c % 16)):=by rw[show (c:Int) % 16=((c % 16:Nat):Int) by lia];exact a0 (hg (c % 16) (by lia))
 have mt:z.length<=sizeLine:=by rw[hz];decide
 exact⟨⟨by decide,by decide⟩,_,mt,a1,by decide,by decide,_,mt,a2,by decide,k _ _ hk (λz=>by rw[dl,z];exact⟨rfl,rfl⟩)⟩
theorem j9:g.CG.Ok P w base 2 sp_is_text:=by
 refine lnF qd ?_;rintro ld A dl s H vs Q E hr ⟨d,v,rfl,hv,hs,k⟩
 exists qd.nd,cx,g.iU,g.b8,g.au
 cases hv with
 |lst hp r=>fail "r";simp only[dO hp];fail "r";exact k H (Same.refl _)
 |tup hp r=>fail "r";simp only[cO hp];fail "r";exact k H (Same.refl _)
 |dic hp=>fail "r";exact⟨"dict",by simp only[kindV,hp],ite2 (λz=>absurd z (by decide)) (λ_=>k H (Same.refl _))⟩
 |str x=>fail "r";refine⟨x,_,rfl,bp hs,λH' sm=>?_⟩;simp only[yH];exact k H' sm
 |_=>fail "r";exact k H (Same.refl _)
theorem rz:g.oA.Ok P w base 2 pi:=by
 refine g.oA.F.ok qe (λvs H Q E h=>?_) (λld A dl s H vs Q E hr h=>?_)
 .obtain⟨c,rfl,_⟩:=h;rfl
 .obtain⟨l,rfl,hl,ha,k⟩:=h
  exists qe.nd,DN,DM,g.aK
  fail "r";have hz:l.length<=sizeLine:=aA (by lia);refine⟨hz,ite2 (λh=>?_) (λh=>?_)⟩
  .rw[kI (by lia)] at k;exact k
  .obtain⟨a,b,rfl⟩:=xt (l:=l) (by lia);refine⟨a,hz,rfl,ha a (by simp),b,hz,rfl,ha b (by simp),?_⟩;have k:Q (signOf a b) H:=k;unfold signOf at k;cases e1:fig a with
   |none=>rw[e1] at k;rw[fw e1];exact k
   |some x=>
    cases e2:fig b with
    |none=>rw[e1,e2] at k;rw[cQ e1,fw e2];exact k
    |some y=>rw[e1,e2] at k;rw[cQ e1,cQ e2];fail "r";exact⟨.inr ⟨by decide,by decide⟩,x * 16+y,by rw[Int.natCast_add,Int.natCast_mul];rfl,k⟩
theorem fP:g.iT.Ok P w base 2 cu:=by
 refine g.iT.F.ok DJ (λvs H Q E h=>?_) (λBT A ld s H vs Q E hr h=>?_)
 .obtain⟨c,rfl,_⟩:=h;rfl
 .obtain⟨l,rfl,hl,hs,k⟩:=h;refine⟨_,(aD (aQ (aZ (K:=K) rfl PySem.F.plainAttrs_str PySem.F.slot_str_join PySem.F.type_str_join (dM (K:=K) rfl) aO (a8 (cmp1 [] [] (js (pv 0)) al (bh (dF fe (pv 0) (glC g.eM) (by with_unfolding_all rfl)) (pv 0) (aY g.iR (DL g) hr rfl (a8 (pv 0) aB)))) aB)))),?_⟩;fail "r";intro p hp;refine jy (z:=⟨l.toArray⟩) (by rw[aG];exact aA (by lia)) hp (λc=>.str ⟨(wr1 c).toArray⟩) (λc hc H' R hR=>?_) (λH' sm mt=>?_)
  .have l1:=ah (hs c hc);have e:=g9 c (by lia);have dl:=hR H' (Same.refl _);fail "r";unfold wr1 at dl;refine ite2 (λh=>?_) (λh=>?_)
   .rw[decide_eq_true h] at e;rw[<- e,if_pos rfl] at dl;exact dl
   .rw[decide_eq_false h] at e;rw[<- e,if_neg (by decide)] at dl;exact⟨by lia,dl⟩
  .fail "r";refine⟨l.map λc=>⟨(wr1 c).toArray⟩,SqL.of (by rw[mt,map_map];rfl),?_,?_⟩
   .have h3:∀m:Tq,((m.map λc=>(⟨(wr1 c).toArray⟩:Str)).map (·.length)).sum<=3 * m.length:=λm=>by
     induction m with
     |nil=>simp
     |cons c r ih=>have:=kJ c;simp only[map_cons,sum_cons,length_cons,aG] at ih ⊢;lia
    have:=h3 l;simp only[length_map,length_nil,Nat.mul_zero,Nat.add_zero,aG] at this ⊢;lia
   .rw[fu];have e:((l.map λc=>(⟨(wr1 c).toArray⟩:Str)).flatMap λy=>y.cps.toList)=wr l:=by
     unfold wr;rw[List.flatMap_map]
    rw[e];exact k H' sm
theorem E2:g.CH.Ok P w base 2 sp_is_name:=by
 refine lnF qf ?_;rintro ld A dl s H vs Q E hr ⟨n,rfl,hn,k⟩
 exists qf.nd,cx,g.iV,g.aK,g.oo,g.b8,g.au
 have eF:iO=.str ⟨smaL.toArray⟩:=by show V.str (ofString _)=_;unfold smaL;simp
 rw[eF];have h1:=hn.1;fail "r";refine⟨aA (by lia),ite2 (λ_=>ite2 (λ_=>⟨_,_,rfl,by rw[aG];lia,λH' sm=>?_⟩) (λz=>absurd h1.2 (by lia))) (λz=>absurd h1.1 (by lia))⟩;have e:=hn.2;rw[lr] at e;rw[show (mkS n).cps.toList=n by simp,show (mkS smaL).cps.toList=smaL by simp,e];exact k H' sm
theorem sA:g.CI.Ok P w base 2 (sp_names_of K):=by
 refine lnF DK ?_;rintro mt A dl s H vs Q E hr ⟨cs,xs,q,rfl,hq,hx,hn,k⟩;refine⟨_,(aD (aQ (cmp1 [] [] (bE (K:=K) rfl (pv 0)) (cL (aW (aY g.o9 (j6 g) hr rfl (a8 (pv 0) aB)))) (aY g.iS (j7 g) hr rfl (a8 (pv 0) aB))))),?_⟩;fail "r";have hl:=hx.length;refine⟨⟨_,hq⟩,λp n=>?_⟩;refine mB (λi=>(cs[i]?.map λc=>!c.isStep).getD false) (λi=>(cs[i]?.map λc=>tV c.name).getD .non) hq (aA (by lia)) n (λi x hi H1 R s1 hR=>?_) (λi x hi ht H1 T s1 hT=>?_) (λH1 s1 ld=>?_)
 .obtain⟨c,q,hc,rfl,hv⟩:=hx.get hi;fail "r";have:=hR H1 (Same.refl _);rw[hc] at this;exact⟨c,q,rfl,s1.tup hv,_,rfl,this⟩
 .obtain⟨c,q,hc,rfl,hv⟩:=hx.get hi;rw[hc] at ht;fail "r";have:=hT H1 (Same.refl _);rw[hc] at this;exact⟨c,q,rfl,s1.tup hv,by simpa using ht,this⟩
 .refine k p H1 s1 ?_;rw[ld,hl,gd (λc:Pc=>!c.isStep) (λc:Pc=>tV c.name) .non cs];unfold gapsM;rw[map_map];rfl
theorem E3:g.CJ.Ok P w base 2 (sp_spread K):=by
 refine lnF qg ?_;rintro EX A BT s H vs Q E hr ⟨cs,xs,p,q,e,n,rfl,hp,hq,hx,hn,EW,k0,k⟩
 nomatch (a9 (by fail "D")
   (a9 (by fail "D")
   (a9 (aS (by fail "D")
    (aD (aQ (aX (bW (K:=K)) (pv 2) (aX yr (by fail "D") (pv 3))))) aT)
   (aD (by fail "D"))))),qg.nd,DR,hint 3 0,g.aK,g.bP
 fail "r";refine⟨_,_,.inr hp,a0 (j:=0) rfl,?_⟩;have hl:=hx.length;fail "r";refine⟨xs,.inr (.of hq),?_⟩;refine⟨cs,xs,p,q,e,rfl,hp,.of hq,hx,by lia,_,rfl,?_⟩;rw[hl];have dl:¬ (hasRest cs=true/\cs.length<=n)->if (n:Int) - (cs.length:Int)=0 then Q (.ref q) H else Q .non H:=λld=>by
  refine ite2 (λh0=>?_) (λh0=>?_)
  .refine k cs xs q H ?_ (Same.refl _) (.of hq) hx;unfold spreadM;rw[if_neg ld,if_pos (by lia)]
  .refine k0 ?_;unfold spreadM;rw[if_neg ld,if_neg (by lia)]
 refine ite2 (λhr=>ite2 (λhm=>?_) (λhm=>dl λz=>by lia)) (λhr=>dl λz=>hr z.1);have Cl:(xs.drop (xs.length - 1)).length<=1:=by rw[length_drop];lia
 have ht:((n:Int) - (cs.length:Int)).toNat=n - cs.length:=by lia
 refine⟨_,hq,λp1 H1 s1 e1=>⟨_,e1,hm,by lia,?_,λp2 H2 s2 e2=>.inr ⟨_,_,(s1.trans s2) _ _ hq,e2,?_,λp3 H3 s3 e3=>?_⟩⟩⟩
 .rw[gb,ht];exact aA (Nat.le_trans (Nat.mul_le_mul Cl (Nat.le_refl _)) (by lia))
 .rw[gb,ht];have:=Al (xs.drop (xs.length - 1)) (n - cs.length) Cl;exact aA (by lia)
 .rw[gb,ht,hl] at e3;have mt:=s1.trans (s2.trans s3);refine k _ _ p3 H3 ?_ mt (.of e3) (PcAll.append (((hx.drop (cs.length - 1)).reps (n - cs.length)).mono mt) (hx.mono mt));unfold spreadM;rw[if_pos ⟨hr,by lia⟩]
theorem E4:g.CK.Ok P w base 2 (sp_fits_part K):=by
 refine lnF qh ?_;rintro ld A dl s H vs Q E hr ⟨h1,n,t,s,p,rfl,hp,hs,hh,ht,k⟩
 nomatch (a9 (by fail "D")
   (a9 (by fail "D")
   (aD (aQ (bB (aZ (K:=K) rfl PySem.F.plainAttrs_str PySem.F.slot_str_startswith PySem.F.type_str_startswith lh (pv 1) (a8 (pv 2) aB)) (bB (aZ (K:=K) rfl PySem.F.plainAttrs_str PySem.F.slot_str_endswith PySem.F.type_str_endswith Ag (pv 1) (a8 (pv 3) aB)) (bR (by fail "D")))))))),qh.nd,cz,cy,g.aK
 fail "r";refine⟨_,p,rfl,hp,_,p,rfl,hp,?_⟩;show rStart1 (tV s) [tV h1] H _;rw[L2.li];have kp:partB h1 t s=(decide (s.take h1.length=h1) && (decide (s.drop (s.length - t.length)=t) && decide (h1.length+t.length < s.length))):=rfl;rw[kp] at k;refine⟨_,rfl,ite2 (λha=>?_) (λha=>?_)⟩;rotate_left
 .rw[(Bool.not_eq_true _).mp ha] at k;exact k
 rw[ha,Bool.true_and] at k;show rEnd1 (tV s) [tV t] H _;rw[L2.Ah];refine⟨_,rfl,ite2 (λhb=>?_) (λhb=>?_)⟩;rotate_left
 .rw[(Bool.not_eq_true _).mp hb] at k;exact k
 rw[hb,Bool.true_and] at k;refine⟨aA hs,?_⟩;show rLenU K [tV h1] H _;fail "r";refine⟨aA hh,aA ht,?_⟩;show Q (V.bl (decide ((h1.length:Int)+(t.length:Int) < (s.length:Int)))) H;rw[show decide ((h1.length:Int)+(t.length:Int) < (s.length:Int))=decide (h1.length+t.length < s.length) from decide_eq_decide.mpr (by lia)];exact k
theorem E5:g.CL.Ok P w base 2 sp_is_number:=by
 refine lnF qi ?_;rintro ld A dl s H vs Q E hr ⟨l,rfl,hl,k⟩
 exists qi.nd,cx,g.iW,g.aK,g.oq
 have eF:iP=.str ⟨fgS.toArray⟩:=by show V.str (ofString _)=_;unfold fgS;simp
 have e0:ofString "0"=⟨[48].toArray⟩:=by fail "k"
 rw[eF,e0];fail "r";have no:∀H',Same H H'->(¬ (1<=l.length/\l.length<=60/\l.all isFig=true))->Q (.bl false) H':=λH' sm h=>by
  have:numB l=false:=by
   unfold numB;by_cases h1:1<=l.length
   .by_cases h2:l.length<=60
    .rw[show l.all isFig=false by simpa using λz=>h ⟨h1,h2,z⟩];simp
    .rw[decide_eq_false h2];simp
   .rw[decide_eq_false h1];simp
  rw[<- this];exact k H' sm
 refine⟨aA hl,ite2 (λh1=>ite2 (λh2=>no _ (Same.refl _) (by lia)) (λh2=>?_)) (λh1=>no _ (Same.refl _) (by lia))⟩;refine⟨_,_,rfl,hl,λH' sm=>⟨_,rfl,?_⟩⟩;have ea:((⟨l.toArray⟩:Str).cps.toList.all λc=>decide (c∈(⟨fgS.toArray⟩:Str).cps.toList))=l.all isFig:=by rw[<- Aj]
 rw[ea];refine ite2 (λh3=>no H' sm (by rw[h3];simp)) (λh3=>?_);have h3:l.all isFig=true:=by simpa using h3
 have en:numB l=(decide (l=[48]) || !decide (l.head?=some 48)):=by unfold numB;rw[decide_eq_true (show 1<=l.length by lia),decide_eq_true (show l.length<=60 by lia),h3];rfl
 have k':=k H' sm;rw[en] at k';cases l with
 |nil=>simp at h1
 |cons c r=>
  refine ite2 (λh4=>?_) (λh4=>⟨c,aA hl,a0 (j:=0) rfl,?_⟩)
  .rw[decide_eq_true (aR.mp h4)] at k';exact k'
  .rw[decide_eq_false (λz=>h4 (by rw[z]))] at k';have:decide ((⟨#[c]⟩:Str)=⟨[48].toArray⟩)=decide ((c::r).head?=some 48):=by
    refine decide_eq_decide.mpr ?_;rw[show (⟨#[c]⟩:Str)=⟨[c].toArray⟩ from rfl,aR];simp
   first|(rw[this];simpa using k')|(simp at this ⊢;simpa [this] using k')
theorem sB:g.CM.Ok P w base 2 sp_is_word:=by
 refine lnF qj ?_;rintro ld A dl s H vs Q E hr ⟨l,rfl,hl,k⟩
 exists qj.nd,cx,g.iV,g.aK,g.ou
 have eF:iO=.str ⟨smaL.toArray⟩:=by show V.str (ofString _)=_;unfold smaL;simp
 rw[eF];fail "r";have no:(¬ (1<=l.length/\l.length<=60))->Q (.bl false) H:=λh=>by
  have:wordB l=false:=by
   unfold wordB;by_cases h1:1<=l.length
   .rw[decide_eq_false (show ¬ l.length<=60 from λz=>h ⟨h1,z⟩)];simp
   .rw[decide_eq_false h1];simp
  rw[<- this];exact k H (Same.refl _)
 refine⟨aA hl,ite2 (λh1=>ite2 (λh2=>?_) (λh2=>no (by lia))) (λh1=>no (by lia))⟩;refine⟨_,_,rfl,hl,λH' sm=>?_⟩;have e:wordB l=(l.all λc=>decide (c∈smaL)):=by unfold wordB;rw[decide_eq_true (show 1<=l.length by lia),decide_eq_true (show l.length<=60 by lia),lr];rfl
 have:=k H' sm;rw[e] at this;simpa using this
theorem E6:g.CN.Ok P w base 2 (sp_bound_value K):=by
 refine lnF ql ?_;rintro Cl A dl s H vs Q E hr ⟨c,s,ss,p,q,rfl,hp,hq,hf,hs,hh,ht,hn,k⟩
 nomatch (a9 (by fail "D")
   (a9 (aS (by fail "D")
    (aD (aQ (bU gJ rfl g.cf.1 fc (a8 (by fail "D") aB)))) aT)
   (aD (by fail "D")))),ql.nd,cy,cz,g.aK,hint 2 0,g.ii
 fail "r";refine⟨_,_,.inr hp,c.at0,?_⟩;refine L2.aF.mpr ⟨_,rfl,?_⟩;rw[bc];have rest:c.isRest=false->c.isNum=false->c.head.length+c.tail.length<=s.length->IxE K H q 0 λv=>sp_head_of K [V.ref p] H (λx H1=>rLenU K [x] H1 λx H1=>∃i,x=V.int i/\IxE K H1 q 0 λmt=>rLenU K [mt] H1 λx H1=>sp_tail_of K [V.ref p] H1 (λld H1=>rLenU K [ld] H1 λy H2=>rI0 (λi j=>V.int (i - j)) x y H2 λx H1=>∃i_1,x=V.int i_1/\rSl K v (some i) (some i_1) H1 Q) E0) E0:=λh1 h2 BT=>by
  refine⟨_,_,.inr (.of hq),a0 (j:=0) rfl,c,p,rfl,hp,aA hh,_,rfl,_,_,.inr (.of hq),a0 (j:=0) rfl,aA hs,c,p,rfl,hp,aA ht,?_⟩;refine⟨_,_,rfl,rfl,_,rfl,?_⟩;refine L2.jw.mpr ⟨aA hs,?_⟩;show Q (.str (Txt.slice ⟨s.toArray⟩ (some (c.head.length:Int)) (some ((s.length:Int) - (c.tail.length:Int))))) H;rw[show (s.length:Int) - (c.tail.length:Int)=((s.length - c.tail.length:Nat):Int) by lia,dQ];refine k _ H (Same.refl _) ?_ (λq z=>by cases z);cases c with
  |rest n=>cases h1
  |num n=>cases h2
  |_=>rfl
 cases c with
 |rest n=>refine ite2 (λ_=>?_) (λz=>absurd rfl z);exact⟨_,.inr (.of hq),λl H1 n1 s1 e1=>k _ H1 s1 ⟨l,rfl,e1⟩ (λq z=>by cases z;exact n1)⟩
 |num n=>refine ite2 (λz=>by cases z) (λ_=>⟨_,_,.inr hp,Pc.at0 _,?_⟩);refine L2.aF.mpr ⟨_,rfl,?_⟩;rw[bH];refine ite2 (λ_=>⟨_,_,.inr (.of hq),a0 (j:=0) rfl,?_⟩) (λz=>absurd rfl z);have hn:=gZ hf;exact⟨⟨s.toArray⟩,intOf s,rfl,by show s.length<=640;lia,Ai hn.2.2 hn.1 hn.2.1,k _ H (Same.refl _) rfl (λq z=>by cases z)⟩
 |part h n t=>refine ite2 (λz=>by cases z) (λ_=>⟨_,_,.inr hp,Pc.at0 _,?_⟩);refine L2.aF.mpr ⟨_,rfl,?_⟩;rw[bH];exact ite2 (λz=>by cases z) (λ_=>rest rfl rfl (Ak hf))
 |_=>refine ite2 (λz=>by cases z) (λ_=>⟨_,_,.inr hp,Pc.at0 _,?_⟩);refine L2.aF.mpr ⟨_,rfl,?_⟩;rw[bH];exact ite2 (λz=>by cases z) (λ_=>rest rfl rfl (by show 0+0<=_;lia))
theorem E7:g.CO.Ok P w base 2 (sp_steps_of_value K):=by
 refine lnF qo ?_;rintro EX A Cl s H vs Q E hr ⟨c,p,d,v,rfl,hp,hc,hh,ht,hv,hs,dl,k⟩
 exists qo.nd,cy,cz,hint 2 0,g.b8
 fail "r";have b3:300000<=sizeLine:=by decide
 refine⟨_,_,.inr hp,c.at0,aF.mpr ⟨_,rfl,?_⟩⟩;rw[bc];refine ite2 (λld=>?_) (λld=>⟨_,_,.inr hp,c.at0,aF.mpr ⟨_,rfl,?_⟩⟩)
 .cases c with
  |rest n=>
   cases hv with
   |lst hl r=>rename_i a xs ds;have e:isValD (.rest n) (.list ds)=(decide (0 < ds.length) && ds.all canD):=rfl;rw[e,Bool.and_eq_true] at dl;refine k a H (Same.refl _) ?_;rw[hl,mC r dl.2];rfl
   |_=>cases dl
  |_=>cases ld
 rw[bH];refine ite2 (λmt=>?_) (λmt=>?_)
 .cases c with
  |num n=>
   cases hv with
   |int i=>
    have e:isValD (.num n) (.int i)=decide (0<=i/\i < 10 ^ 60):=rfl;rw[e] at dl;have h60:=of_decide_eq_true dl;have EW:i.natAbs.log2 < 1920:=by
     by_cases h0:i.natAbs=0
     .rw[h0];decide
     .rw[Nat.log2_lt h0];have:i.natAbs < 10 ^ 60:=by lia
      exact Nat.lt_of_lt_of_le this (by fail "k")
    exact⟨i,rfl,EW,by decide,λp1 H1 n1 s1 BT=>k p1 H1 s1 BT⟩
   |_=>cases dl
  |_=>cases mt
 .have e:isValD c d=(ftx d && !isDot (c.head++txD d++c.tail))\/c.isWord=true:=by
   cases c with
   |part a b e=>exact .inl rfl
   |gap n=>exact .inl (show (ftx d && !isDot (txD d))=(ftx d && !isDot ([]++txD d++[])) by rw[nil_append,append_nil])
   |step s=>cases hc
   |num n=>exact absurd rfl mt
   |word n=>exact .inr rfl
   |rest n=>exact absurd rfl ld
  have e2:stpsD c d=[c.head++txD d++c.tail]:=by
   cases c with
   |step s=>cases hc
   |num n=>exact absurd rfl mt
   |rest n=>exact absurd rfl ld
   |_=>rfl
  cases hv with
  |str x=>
   obtain⟨⟨l⟩⟩:=x;have hl:l.length<=100000:=bp hs;refine⟨c,p,rfl,hp,ae.mpr ⟨Nat.le_trans (show c.head.length+l.length<=300000 by lia) b3,c,p,rfl,hp,ae.mpr ⟨?_,by decide,λp1 H1 n1 s1 BT=>k p1 H1 s1 ?_⟩⟩⟩
   .show ((⟨c.head.toArray⟩:Str)++⟨l.toArray⟩).length+c.tail.length<=_;rw[aU,aG,length_append];lia
   .rw[BT,e2];show some (HO.lst [V.str ((⟨c.head.toArray⟩:Str)++⟨l.toArray⟩++⟨c.tail.toArray⟩)])=_;rw[aU,aU];rfl
  |_=>
   rcases e with e|e
   .rw[e] at dl;cases dl
   .cases c with
    |word n=>cases dl
    |_=>cases e
theorem E8:g.CP.Ok P w base 2 (sp_worth_of K):=by
 refine lnF qp ?_;rintro ld A dl s H vs Q E hr ⟨c,p,rfl,hp,hz,k⟩
 nomatch (a9 (by fail "D")
   (aD (aQ (cP (a8 (AX (g.pY P) (dA (v:=.ref g.fE) rfl g.pX rfl) (by fail "D") (λ_ _=>rfl)) (a8 (by fail "D") (a8 (by fail "D") aB))))))),qp.nd,cz,cy,g.aK,hint 2 0
 fail "r";refine⟨c,p,rfl,hp,?_⟩;refine⟨_,_,.inr hp,c.at0,c.kw,wordW c,rfl,?_,?_⟩
 .cases c with
  |step w=>show Spec.lookup (PyData.str (ofString "step")) _=some (PyData.int 6);with_unfolding_all kernel_rfl
  |part a n b=>show Spec.lookup (PyData.str (ofString "part")) _=some (PyData.int 5);with_unfolding_all kernel_rfl
  |num n=>show Spec.lookup (PyData.str (ofString "number")) _=some (PyData.int 4);with_unfolding_all kernel_rfl
  |word n=>show Spec.lookup (PyData.str (ofString "word")) _=some (PyData.int 3);with_unfolding_all kernel_rfl
  |gap n=>show Spec.lookup (PyData.str (ofString "gap")) _=some (PyData.int 2);with_unfolding_all kernel_rfl
  |rest n=>show Spec.lookup (PyData.str (ofString "rest")) _=some (PyData.int 1);with_unfolding_all kernel_rfl
 have h1:=hz.1;have h2:=hz.2.1;refine⟨aA (by rw[aG];lia),c,p,rfl,hp,aA (by rw[aG];lia),aA (by rw[aG];lia),by decide,λr H1 n1 s1 hr=>?_⟩;exact k r H1 s1 hr
theorem fQ:FnOk P w K mg base CX0 2 g.el g.eo ["self","signs"] (sp_Cursor_sees K g.aH):=by
 refine lnT (g.pG.ok qr) ?_;rintro mt A ld s H vs Q E hr ⟨p,t,sg,i,rfl,⟨dx,hp⟩,hi,hl,k⟩
 nomatch (aD (aQ (bB (jI (bT (pv 0) g.aI g.ip (rp g) (hr.mono (by decide)) g.ij .nil pass0)) (bR (by fail "D"))))),qr.nd
 have dl:Cur H g.aH p t i:=⟨dx,hp⟩;fail "r";refine aL dl ⟨p,t,i,rfl,dl,hl,_,rfl,?_⟩;by_cases he:i=t.length
 .rw[decide_eq_true he,if_neg (by decide)];rw[gN (by rw[he];exact List.getElem?_eq_none (Nat.le_refl _))] at k;exact k
 rw[decide_eq_false he,if_pos rfl];refine bZ dl g.aI g.bJ (bG dl g.aI g.ai ?_);have hc:t[i]?=some t[i]:=List.getElem?_eq_getElem (by lia);fail "r";refine⟨t[i],aA hl,a0 hc,?_⟩;rw[bM hc] at k;exact k
theorem fR:g.CQ.Ok P w base 2 (sp__law_text K):=by
 refine lnF iq ?_;rintro Fa A ld s H vs Q E hr ⟨c,rfl,k⟩
 nomatch (a9 (sx 1 iq.nd (px K (fk (a8 aO (a8 aO (a8 aO (a8 aO (a8 (tw (DW g) (hr.mono (by decide)) rfl g.ce.m g.ce.F.kp g.ce.b .nil pass0) (a8 aO aB))))))) (by fail "D")))
   (a9 (by fail "D")
   (a9 (by fail "D")
   (aD (by fail "D"))))),iq.nd,hint 2 0,g.aK
 fail "r";refine⟨by decide,λp H1 n1 s1 e1=>⟨by decide,?_⟩⟩;obtain⟨v,hv,EY⟩:=yC [V.str (ofString "ab"),V.str (ofString "a1"),V.str (ofString "0123456789"),V.str (ofString "a."),V.str {cps:=SG.toArray},V.str (ofString "./{}~ab")] c 6 (by decide) (by decide);have dl:∃l:Tq,v=tV l/\0 < l.length/\l.length<=94/\∀c∈l,isSg c=true:=by
  simp only[mem_cons,not_mem_nil,or_false] at hv;rcases hv with rfl|rfl|rfl|rfl|rfl|rfl
  .exact⟨[97,98],congrArg V.str (by fail "k"),by decide,by decide,by decide⟩
  .exact⟨[97,49],congrArg V.str (by fail "k"),by decide,by decide,by decide⟩
  .exact⟨[48,49,50,51,52,53,54,55,56,57],congrArg V.str (by fail "k"),by decide,by decide,by decide⟩
  .exact⟨[97,46],congrArg V.str (by fail "k"),by decide,by decide,by decide⟩
  .exact⟨SG,rfl,by rw[kG];decide,by rw[kG];decide,λc hc=>kC.mp hc⟩
  .exact⟨[46,47,123,125,126,97,98],congrArg V.str (by fail "k"),by decide,by decide,by decide⟩
 obtain⟨pl,rfl,EZ,Cl,BT⟩:=dl;refine⟨_,_,.inl (.of e1),EY,⟨by decide,by decide⟩,by decide,by lia,by lia,?_⟩;refine cK (λj Z H2=>H2=H1/\Ex2 λ(w:Tq) (v3:Option V)=>Z=[some (.int c),some (tV pl),some (tV w),v3]/\w.length=j/\∀c∈w,isSg c=true) ⟨rfl,[],none,rfl,rfl,by simp⟩ ?_ ?_
 .rintro j Z H2 hj ⟨rfl,w,v3,rfl,mt,hw⟩;have EW:j=0\/j=1\/j=2\/j=3\/j=4:=by lia
  have hb:0 < 30+17 * (0+(j:Int)) * (0+(j:Int))/\30+17 * (0+(j:Int)) * (0+(j:Int)) < 1073741824:=by rcases EW with rfl|rfl|rfl|rfl|rfl <;> decide
  obtain⟨d,hd,EX⟩:=dR pl (c / (30+17 * (0+(j:Int)) * (0+(j:Int)))) (pl.length:Int) (by lia) (by lia);fail "r";refine⟨.inl ⟨by decide,by decide⟩,.inr ⟨by lia,by lia⟩,hb,aA (by lia),by lia,d,aA (by lia),EX,aA (by lia),w++[d],_,⟨by simp,rfl⟩,by rw[length_append,length_singleton,mt],λe he=>?_⟩;rcases mem_append.mp he with z|z
  .exact hw e z
  .rw[mem_singleton.mp z];exact BT d hd
 .rintro Z H2 ⟨rfl,w,v3,rfl,mt,hw⟩;fail "r";exact k w H2 (by lia) hw s1
theorem E9:g.CS.Ok P w base 2 (sp__law_written K):=by
 refine lnF fF ?_;rintro Fg A EW s H vs Q E hr ⟨dl,q,cs,rfl,hq,Ff,EY,Fe,k⟩
 nomatch (a9 (by fail "D")
   (a9 (by fail "D")
   (a9 (bC PassesOwn.never rfl (Be rfl g.br.1 (a8 (pv 0) aB)) (bo (n:=2) (K:=K) rfl rfl (af (pgn 4 fF.nd) (af (pgn 5 fF.nd) bS)))
   (by fail "D"))
   (aD (by fail "D"))))),fF.nd,E1,hint 2 0,hint 7 0,g.aK,hint 0 542
 have eP:ofString "abcdefghijklmnopqrstuvwxyzABCDEFGHIJKLMNOPQRSTUVWXYZ0123456789-_."=⟨plS.toArray⟩:=(cZ _).symm;have eF:ofString "!$'()*,;@&=+"=⟨frS.toArray⟩:=(cZ _).symm;rw[eP,eF];fail "r";refine⟨?_,?_⟩
 .rw[List.all_toArray,all_eq_true];exact λc hc=>decide_eq_true (by have:=ah (EY c hc);lia)
 refine Bg (x:=⟨dl.toArray⟩) (λi Z H'=>Same H H'/\∃(w:Tq) (v4 v5 v6:Option V),Z=[some (tV dl),some (.ref q),some (.str ⟨plS.toArray⟩),some (tV w),v4,v5,v6]/\WrT frS (dl.take i) w/\w.length<=3 * i/\(cs=[]->w=wr (dl.take i))) ⟨Same.refl _,[],none,none,none,rfl,.nil,Nat.zero_le _,λ_=>rfl⟩ ?_ ?_;rotate_left
 .rintro Z H1 ⟨s1,w,v4,v5,v6,rfl,hw,EX,h0⟩;fail "r";have e:dl.take (⟨dl.toArray⟩:Str).cps.size=dl:=take_length;rw[e] at hw h0;exact k w H1 hw EX h0 s1
 rintro i c Z H1 T1 mt ⟨s1,w,v4,v5,v6,rfl,hw,EX,h0⟩ Fc;have mt:dl[i]?=some c:=by simpa using mt
 have hi:i < dl.length:=(List.getElem?_eq_some_iff.mp mt).1;have hc:=EY c (mem_of_getElem? mt);have hc':=ah hc;have et:dl.take (i+1)=dl.take i++[c]:=by rw[take_add_one,mt];rfl
 have sT:=s1.trans (aN (o:=.tup [.int (i:Int),.str ⟨#[c]⟩]) Fc);fail "r";refine⟨T1,_,rfl,.of aC,rfl,_,_,rfl,_,_,rfl,rfl,?_⟩;generalize upd H1 T1 (.tup [.int (i:Int),.str ⟨#[c]⟩])=H2 at sT;fail "r";refine⟨λZ H3=>Same H H3/\∃z:Int,Z=[some (tV dl),some (.ref q),some (.str ⟨plS.toArray⟩),some (tV w),some (.int (i:Int)),some (.str ⟨#[c]⟩),some (.int z)]/\(cs=[]->z=0),⟨by decide,λp3 H3 n3 s3 e3=>?_⟩,?_⟩
 .have u3:=sT.trans s3;have Fa:SeqAt.shaped (.list (cs.map PyData.int))=true:=(layL (n:=0) λd hd=>by
   obtain⟨z,_,rfl⟩:=mem_map.mp hd;exact LayAt.iD (o:=some z)).shaped (by decide)
  refine⟨.list (cs.map PyData.int),.list [],.lst (u3 _ _ hq) nQ,.lst e3 .nil,Fa,by fail "k",_,rfl,?_⟩;rw[de,isEmpty_map];refine ite2 (λEZ=>?_) (λEZ=>⟨u3,0,rfl,λ_=>rfl⟩);have ld:0 < cs.length:=by
   cases cs with
   |nil=>cases EZ
   |cons a b=>simp
  obtain⟨j,hj,ej⟩:∃j:Nat,j < cs.length/\(i:Int) % ((cs.map V.int).length:Int)=(j:Int):=by rw[length_map];have h1:=Int.emod_nonneg (i:Int) (show (cs.length:Int)≠0 by lia);have h2:=Int.emod_lt_of_pos (i:Int) (show 0 < (cs.length:Int) by lia);exact⟨((i:Int) % (cs.length:Int)).toNat,by lia,by lia⟩
  refine⟨_,.inl (.of (u3 _ _ hq)),by rw[length_map];lia,?_⟩;rw[ej];obtain⟨z,hz⟩:∃z,cs[j]?=some z:=⟨_,List.getElem?_eq_getElem hj⟩;refine⟨_,_,.inl (.of (u3 _ _ hq)),a0 (by rw[List.getElem?_map,hz];rfl),?_⟩;fail "r";refine⟨⟨by lia,by lia⟩,u3,λz'=>?_⟩;rw[z'] at ld;cases ld
 rintro Z H3 ⟨s3,z,rfl,hz⟩;have wl:w.length<=300:=by lia
 have ew:wr (dl.take i++[c])=wr (dl.take i)++wr1 c:=by rw[xu];simp[wr]
 have BT:c∈frS->c≠126:=λh z=>by rw[z] at h;exact absurd h (by fail "k")
 have self:(isPl c=true\/c∈frS)->(cs=[]->isPl c=true)->w.length+1<=sizeLine/\Same H H3/\∃(w_1:Tq) (v4 v5 v6:Option V),((⟨(w++[c]).toArray⟩:Str)=⟨w_1.toArray⟩/\some (V.int (i:Int))=v4/\some (V.str ⟨#[c]⟩)=v5/\some (V.int z)=v6)/\WrT frS (dl.take (i+1)) w_1/\w_1.length<=3 * (i+1)/\(cs=[]->w_1=wr (dl.take (i+1))):=λh1 h2=>by
  refine⟨aA (by lia),s3,w++[c],_,_,_,⟨rfl,rfl,rfl,rfl⟩,?_,by rw[length_append,length_singleton];lia,λh=>?_⟩
  .rw[et];refine lG hw (.self h1 ?_ .nil);rcases h1 with h|h
   .exact λz=>by rw[z] at h;exact absurd h (by fail "k")
   .exact BT h
  .rw[et,ew,h0 h,show wr1 c=[c] from if_pos (h2 h)]
 have pr:(cs=[]->isPl c=false)->CDiv z 4/\(0:Int) < 2/\sp__law_pair [V.str ⟨#[c]⟩,V.bl (decide (z / 4 % 2=1))] H3 (λy H2=>rAddS K (tV w) y H2 λx H1=>Same H H1/\∃(w:Tq) (v4 v5 v6:Option V),(x=tV w/\some (V.int (i:Int))=v4/\some (V.str ⟨#[c]⟩)=v5/\some (V.int z)=v6)/\WrT frS (dl.take (i+1)) w/\w.length<=3 * (i+1)/\(cs=[]->w=wr (dl.take (i+1)))) E0:=λh1=>by
  refine⟨⟨by decide,by decide⟩,by decide,c,_,rfl,hc,λa b Fb hg=>ae.mpr ⟨aA (by rw[aG,aG];simp only[length_cons,length_nil];lia),?_⟩⟩;rw[aU];refine⟨s3,w++[126,a,b],_,_,_,⟨rfl,rfl,rfl,rfl⟩,?_,by rw[length_append];simp only[length_cons,length_nil];lia,λh=>?_⟩
  .rw[et];exact lG hw (.pair Fb .nil)
  .obtain⟨e1,e2⟩:=hg (by rw[hz h];decide);rw[et,ew,h0 h,show wr1 c=[126,hexd (c / 16),hexd (c % 16)] from if_neg (by rw[h1 h];decide),e1,e2]
 have Cl:=gM (c:=c) (by lia);fail "r";refine ite2 (λh1=>⟨by decide,ite2 (λ_=>self (.inl (Cl.mp h1)) λ_=>Cl.mp h1) (λh2=>?_)⟩) (λh1=>?_)
 .have no:cs=[]->isPl c=false:=λh=>absurd (show z % 4 < 2 by rw[hz h];decide) h2;exact ite2 (λh3=>⟨by decide,ite2 (λ_=>self (.inr h3) λ_=>Cl.mp h1) (λ_=>pr no)⟩) (λ_=>pr no)
 .have no:cs=[]->isPl c=false:=λ_=>Bool.eq_false_iff.mpr λz=>h1 (Cl.mpr z);exact ite2 (λh3=>⟨by decide,ite2 (λh4=>self (.inr h3) λh=>absurd h4 (by rw[hz h];decide)) (λ_=>pr no)⟩) (λ_=>pr no)
theorem Ea:g.oB.Ok P w base 3 pj:=by
 refine g.oB.F.ok qt (λvs H Q E h=>?_) (λBT A dl s H vs Q E hr h=>?_)
 .obtain⟨c,r,fr,rfl,_⟩:=h;rfl
 .obtain⟨c,r,fr,rfl,hl,ha,mt,k⟩:=h
  exists qt.nd,rz,g.eM
  by_cases hc:c=126
  .subst hc;rw[kP] at k;fail "r";refine⟨126,aA (by lia),a0 (j:=0) rfl,?_⟩;rw[if_pos rfl];exact⟨aA (by lia),hl,λd hd=>ha d (mem_cons_of_mem _ hd),k⟩
  .have ld:r=[]:=mt.resolve_left hc;subst ld;fail "r";have hp:=g9 c (ha c (by simp));rw[kQ hc] at k;refine⟨c,by decide,rfl,?_⟩;rw[if_neg (y6 hc)];refine ite2 (λh=>?_) (λh=>?_)
   .rw[decide_eq_true h] at hp;rw[<- hp,Bool.true_or,if_pos rfl] at k;exact k
   .rw[decide_eq_false h] at hp;rw[<- hp,Bool.false_or] at k;refine ite2 (λh2=>?_) (λh2=>?_)
    .rw[if_pos (decide_eq_true h2)] at k;exact k
    .rw[if_neg (by simpa using h2)] at k;exact k
theorem Eb:g.CT.Ok P w base 3 sp_is_scheme:=by
 refine lnF r8 ?_;rintro mt A dl s H vs Q E hr ⟨d,v,rfl,hv,hs,k⟩
 exists r8.nd,cx,j9,g.oP,g.oO,g.aK,g.og
 fail "r";refine⟨d,v,rfl,hv,hs,λH1 s1=>?_⟩;fail "r";have k1:=k H1 s1;cases hv with
 |str x=>
  have hx:=bp hs;refine ite2 (λh=>?_) (λh=>?_)
  .rw[show schD (.str x)=false by simp only[schD];rw[show x.cps.toList.all isSg=false from h];rfl] at k1;exact k1
  have h:x.cps.toList.all isSg=true:=(Bool.not_eq_false _).mp h;fail "r";refine⟨aA hx,ite2 (λh2=>?_) (λh2=>?_)⟩
  .rw[show schD (.str x)=false by simp only[schD,h,Bool.true_and];rw[decide_eq_false (by lia)];rfl] at k1;exact k1
  have e:x=⟨x.cps.toList.toArray⟩:=by simp
  refine⟨aA hx,?_⟩;have e1:Txt.slice x none (some 1)=⟨(x.cps.toList.take 1).toArray⟩:=by
   conv=>lhs;rw[e]
   exact xl x.cps.toList 1
  rw[e1];refine⟨⟨(x.cps.toList.take 1).toArray⟩,_,rfl,by rw[aG,length_take];lia,λH2 s2=>?_⟩;have ld:=all_eq_true.mp h;have f1:((⟨(x.cps.toList.take 1).toArray⟩:Str).cps.toList.all λc=>decide (c∈(ofString "abcdefghijklmnopqrstuvwxyzABCDEFGHIJKLMNOPQRSTUVWXYZ").cps.toList))=(x.cps.toList.take 1).all isLet:=by rw[xz,Bool.eq_iff_iff,all_eq_true,all_eq_true];refine forall_congr' λc=>forall_congr' λhc=>?_;rw[yE c (by have:=ah (ld c (mem_of_mem_take hc));lia)]
  have f2:(x.cps.toList.all λc=>decide (c∈(ofString "abcdefghijklmnopqrstuvwxyzABCDEFGHIJKLMNOPQRSTUVWXYZ0123456789").cps.toList))=x.cps.toList.all isAln:=by rw[Bool.eq_iff_iff,all_eq_true,all_eq_true];refine forall_congr' λc=>forall_congr' λhc=>?_;rw[yF c (by have:=ah (ld c hc);lia)]
  rw[f1];fail "r";refine ite2 (λh3=>?_) (λh3=>?_)
  .refine⟨x,_,rfl,hx,λH3 s3=>?_⟩;have k3:=k H3 (s1.trans (s2.trans s3));rw[f2];simp only[schD,h,h3,Bool.true_and,decide_eq_true (show x.length<=8 by lia)] at k3;exact k3
  .have k3:=k H2 (s1.trans s2);simp only[schD,h,(Bool.not_eq_true _).mp h3,Bool.false_and,Bool.and_false,Bool.true_and] at k3;exact k3
 |_=>exact k1
theorem jA:g.CU.Ok P w base 3 sp_is_filled_text:=by
 refine lnF r9 ?_;rintro ld A dl s H vs Q E hr ⟨d,v,rfl,hv,hs,k⟩
 exists r9.nd,j9,g.aK
 fail "r";refine⟨d,v,rfl,hv,hs,λH1 s1=>?_⟩;fail "r";have k1:=k H1 s1;cases hv with
 |str x=>
  refine ite2 (λh=>?_) (λh=>?_)
  .fail "r";refine⟨aA (bp hs),?_⟩;have e:ftx (.str x)=decide ((0:Int) < (x.length:Int)):=by
    simp only[ftx];rw[show x.cps.toList.all isSg=true from h,Bool.true_and];exact decide_eq_decide.mpr (by lia)
   rw[e] at k1;exact k1
  .rw[show ftx (.str x)=false by simp only[ftx];rw[show x.cps.toList.all isSg=false from (Bool.not_eq_true _).mp h,Bool.false_and]] at k1;exact k1
 |_=>exact k1
theorem Ec:g.CV.Ok P w base 3 sp_shown_house:=by
 refine lnF rA ?_;rintro BT A dl s H vs Q E hr ⟨o,d,rfl,ho,hd,k⟩
 exists rA.nd,fP,g.b8,hint 0 112
 have c1:ofString ":"=⟨[58].toArray⟩:=by fail "k"
 have c2:ofString "//"=⟨[47,47].toArray⟩:=by fail "k"
 rw[c1,c2];fail "r";cases o with
 |none=>
  cases d with
  |some i=>exact absurd rfl (hd i rfl).2
  |none=>refine ite2 (λ_=>?_) (λz=>absurd rfl z);exact k H (Same.refl _)
 |some l=>
  refine ite2 (λz=>absurd z (by simp[otV])) (λ_=>?_);have hl:=ho l rfl;have w:=bK l;refine⟨λZ H'=>H'=H/\Z=[some (otV (some l)),some (itV d),some (.str ⟨(dooT d).toArray⟩)]/\(dooT d).length<=6,?_,?_⟩
  .cases d with
   |none=>exact ite2 (λ_=>⟨rfl,rfl,by decide⟩) (λz=>absurd rfl z)
   |some i=>
    have hi:=(hd i rfl).1;have mt:=kY hi.1 hi.2;refine ite2 (λz=>absurd z (by simp[itV])) (λ_=>?_);refine⟨i,rfl,lg hi.1 hi.2,aA (by rw[kq,aG];lia),rfl,?_,?_⟩
    .rw[kq,show (⟨#[58]⟩:Str)=⟨[58].toArray⟩ from rfl,aU];simp[dooT]
    .simp only[dooT,length_cons];lia
  .rintro Z H' ⟨rfl,rfl,mt⟩;fail "r";show cu [.str ⟨l.toArray⟩] H' _ _;fail "r";refine⟨by lia,hl.2,λH'' ld=>?_⟩;refine⟨aA (by lia),aA (by lia),?_⟩;have:=k H'' ld;simpa [houT] using this
theorem Ed:g.CW.Ok P w base 3 (sp_shown_way K):=by
 refine lnF rB ?_;rintro EW A dl s H vs Q E hr ⟨r,e,ss,p,q,rfl,hp,hq,hs,hn,hl,k⟩
 nomatch (aD (aQ (aY g.o8 (DP g) hr rfl (a8 (by fail "D") (a8 (cmp1 [] [] (bE (K:=K) rfl (by fail "D")) al (aY g.iT (fP g) hr rfl (a8 (pv 0) aB))) (a8 (by fail "D") aB)))))),rB.nd,g.ic,g.eQ,g.ib
 fail "r";refine⟨_,_,.inr hp,rfl,?_⟩;refine⟨_,_,.inr hp,rfl,q,rfl,⟨_,hq⟩,λp1 Cl=>?_⟩;refine xM (zs:=(ss.map wr).map λl=>V.str ⟨l.toArray⟩) hq (by rw[length_map];exact aA (by lia)) Cl (by simp) (λi x z hx hz H' T sm hT=>?_) (λH' sm BT=>?_)
 .rw[List.getElem?_map] at hx hz;rw[List.getElem?_map] at hz;obtain⟨s,ld,rfl⟩:=Option.map_eq_some_iff.mp hx;rw[ld] at hz;simp only[Option.map_some,Option.some.injEq] at hz;subst hz;have mt:=hs s (mem_of_getElem? ld);fail "r";exact⟨mt.1,mt.2,hT⟩
 .refine⟨_,_,.inr (sm.tup hp),rfl,?_⟩;have hw:(joinT 47 (ss.map wr)).length<=90000:=by
   have:=hl;unfold wayT at this;simp only[length_append] at this;lia
  refine⟨r,e,p1,ss.map wr,rfl,.of BT,hw,?_⟩;rw[<- yW];exact k H' sm
theorem Ee:g.oC.Ok P w base 3 sp_shown_asked:=by
 refine lnF rC ?_;rintro BT A dl s H vs Q E hr ⟨n,o,rfl,hk,hn,ho,k⟩
 exists rC.nd,fP
 have c1:ofString "="=⟨[61].toArray⟩:=by fail "k"
 rw[c1];have w1:=bK n;fail "r";cases o with
 |none=>refine ite2 (λ_=>?_) (λz=>absurd rfl z);refine⟨hn,hk.1.2,λH' s'=>?_⟩;rw[show pairT (n,none)=wr n by simp[pairT,oT]] at k;exact k H' s'
 |some l=>refine ite2 (λz=>absurd z (by simp[otV])) (λ_=>?_);have mt:=ho l rfl;have w2:=bK l;rw[show pairT (n,some l)=wr n++[61]++wr l by simp[pairT,oT]] at k;refine⟨hn,hk.1.2,λH' s'=>?_⟩;refine⟨aA (by simp;lia),?_⟩;show cu [.str ⟨l.toArray⟩] H' _ _;fail "r";refine⟨mt,hk.2 l rfl,λH'' ld=>⟨aA (by simp;lia),k H'' (s'.trans ld)⟩⟩
theorem Ef:g.CY.Ok P w base 3 sp_shown_mark:=by
 refine lnF rD ?_;rintro ld A dl s H vs Q E hr ⟨o,rfl,ho,k⟩
 exists rD.nd,fP
 have c1:ofString "#"=⟨[35].toArray⟩:=by fail "k"
 rw[c1];fail "r";cases o with
 |none=>exact ite2 (λ_=>k H (Same.refl _)) (λz=>absurd rfl z)
 |some l=>refine ite2 (λz=>absurd z (by simp[otV])) (λ_=>?_);have hl:=ho l rfl;have w:=bK l;show cu [.str ⟨l.toArray⟩] H _ _;rw[show (⟨#[35]⟩:Str)=⟨[35].toArray⟩ from rfl];fail "r";refine⟨hl.1,hl.2,λH' s'=>⟨aA (by lia),?_⟩⟩;exact k H' s'
theorem Eg:g.CZ.Ok P w base 3 sp_are_ends_of_part:=by
 refine lnF rE ?_;rintro ld A dl s H vs Q E hr ⟨a,b,rfl,l1,l2,c1,c2,hn,k⟩
 exists rE.nd,j9
 have t1:tx (.str (mkS a))=true:=all_eq_true.mpr (by simpa using c1);have t2:tx (.str (mkS b))=true:=all_eq_true.mpr (by simpa using c2);fail "r";refine⟨_,_,rfl,.str _,iK (by lia),λH1 s1=>⟨_,rfl,ite2 (λ_=>⟨_,_,rfl,.str _,iK (by lia),λH2 s2=>⟨_,rfl,ite2 (λ_=>?_) (λz=>absurd t2 z)⟩⟩) (λz=>absurd t1 z)⟩⟩;refine⟨Nat.le_trans (Nat.add_le_add (show (mkS a).length<=100 by rw[aG];exact l1) (show (mkS b).length<=100 by rw[aG];exact l2)) (by decide),?_⟩;rw[decide_eq_false (λz=>hn (bF.mp z))];exact k H2 (s1.trans s2)
theorem Eh:g.D0.Ok P w base 3 (sp_names_are_unlike K):=by
 refine lnF rF ?_;rintro ld A dl s H vs Q E hr ⟨cs,xs,q,rfl,hq,hx,hl,k⟩
 nomatch (a9 (by fail "D")
   (aD (aQ (pcm cE (Bo rfl rfl g.oz.1 rfl g.aK.1 PySem.boot_len (a8 (pv 1) aB)) (by fail "D"))))),rF.nd,sA,g.aK
 fail "r";refine⟨cs,xs,q,rfl,.of hq,hx,hl,λp1 H1 s1 h1=>?_⟩;have hgl:=cW cs;refine⟨p1,(gapsM cs).map mkS,rfl,by rw[h1,map_map];rfl,by rw[length_map];lia,?_⟩;fail "r";refine⟨_,.inl (.of h1),?_⟩;have e:decide ((((fstU ((gapsM cs).map mkS)).length:Nat):Int)=(((gapsM cs).map tV).length:Int))=decide ((gapsM cs).Nodup):=by have h2:=(eD _ ((gapsM cs).map mkS) rfl).2;rw[BP,length_map] at h2;rw[decide_eq_decide,length_map,<- h2];lia
 rw[e];exact k H1 s1
theorem Ei:g.oE.Ok P w base 3 (sp_step_fits K):=by
 refine lnF rG ?_;rintro BT A mt s H vs Q E hr ⟨c,s,p,rfl,hp,hs,hh,ht,k⟩
 exists rG.nd,sB,E5,E4,fO
 fail "r";refine⟨s,rfl,_,rfl,?_⟩;have kk:=k;by_cases ld:isDot s=true
 .rw[if_pos ld];have e:fitsM c s=false:=by unfold fitsM;rw[ld];rfl
  rw[e] at k;exact k H (Same.refl _)
 rw[if_neg ld];have dl:isDot s=false:=by simpa using ld
 refine⟨_,_,.inr hp,c.at0,?_⟩;refine L2.aF.mpr ⟨_,rfl,?_⟩;rw[cU];cases c with
 |step w=>
  refine ite2 (λ_=>⟨_,_,.inr hp,a0 (j:=1) rfl,?_⟩) (λz=>absurd rfl z);refine L2.aF.mpr ?_;have e:fitsM (.step w) s=decide ((⟨s.toArray⟩:Str)=⟨w.toArray⟩):=by unfold fitsM;rw[dl];show decide (s=w)=_;exact decide_eq_decide.mpr aR.symm
  rw[<- e];exact k H (Same.refl _)
 |part h n t=>
  refine ite2 (λz=>by cases z) (λ_=>⟨_,_,.inr hp,Pc.at0 _,?_⟩);refine L2.aF.mpr ⟨_,rfl,?_⟩;rw[ao];refine ite2 (λ_=>?_) (λz=>absurd rfl z);have e:fitsM (.part h n t) s=partB h t s:=by unfold fitsM;rw[dl];rfl
  exact⟨h,n,t,s,p,rfl,hp,hs,hh,ht,by rw[<- e];exact k H (Same.refl _)⟩
 |num n=>
  refine ite2 (λz=>by cases z) (λ_=>⟨_,_,.inr hp,Pc.at0 _,?_⟩);refine L2.aF.mpr ⟨_,rfl,?_⟩;rw[ao];refine ite2 (λz=>by cases z) (λ_=>⟨_,_,.inr hp,Pc.at0 _,?_⟩);refine L2.aF.mpr ⟨_,rfl,?_⟩;rw[bH];refine ite2 (λ_=>?_) (λz=>absurd rfl z);have e:fitsM (.num n) s=numB s:=by unfold fitsM;rw[dl];rfl
  exact⟨s,rfl,hs,λH' sm=>by rw[<- e];exact k H' sm⟩
 |word n=>
  refine ite2 (λz=>by cases z) (λ_=>⟨_,_,.inr hp,Pc.at0 _,?_⟩);refine L2.aF.mpr ⟨_,rfl,?_⟩;rw[ao];refine ite2 (λz=>by cases z) (λ_=>⟨_,_,.inr hp,Pc.at0 _,?_⟩);refine L2.aF.mpr ⟨_,rfl,?_⟩;rw[bH];refine ite2 (λz=>by cases z) (λ_=>⟨_,_,.inr hp,Pc.at0 _,?_⟩);refine L2.aF.mpr ⟨_,rfl,?_⟩;rw[dw];refine ite2 (λ_=>?_) (λz=>absurd rfl z);have e:fitsM (.word n) s=wordB s:=by unfold fitsM;rw[dl];rfl
  exact⟨s,rfl,hs,λH' sm=>by rw[<- e];exact k H' sm⟩
 |_=>refine ite2 (λz=>by cases z) (λ_=>⟨_,_,.inr hp,Pc.at0 _,?_⟩);refine L2.aF.mpr ⟨_,rfl,?_⟩;rw[ao];refine ite2 (λz=>by cases z) (λ_=>⟨_,_,.inr hp,Pc.at0 _,?_⟩);refine L2.aF.mpr ⟨_,rfl,?_⟩;rw[bH];refine ite2 (λz=>by cases z) (λ_=>⟨_,_,.inr hp,Pc.at0 _,?_⟩);refine L2.aF.mpr ⟨_,rfl,?_⟩;rw[dw];refine ite2 (λz=>by cases z) (λ_=>?_);have e:=k H (Same.refl _);unfold fitsM at e;rw[dl] at e;exact e
theorem Ej:g.D1.Ok P w base 3 (sp_refuse_others K):=by
 refine lnF rH ?_;rintro EZ A ld s H vs Q E hr ⟨cs,xs,p,q,pz,cl,ws,ys,rfl,hp,hq,hx,hn,BT,hw,EY,hO,k⟩
 exists rH.nd,sA,hint 10 0,hint 1 284,g.bP
 fail "r";refine⟨_,_,.inr hp,rfl,cs,xs,q,rfl,hq,hx,by lia,λp1 H1 s1 EW=>⟨⟨_,.of (s1 _ _ BT)⟩,?_⟩⟩;have hgl:=cW cs;refine fi (xs:=ys) (λi Z H'=>Same H1 H'/\(∀w∈ws.take i,w.1∈gapsM cs)/\∃v3 v4,Z=[some (.ref p),some (.ref pz),some (.ref p1),v3,v4]) ⟨Same.refl _,(λw hw=>by rw[take_zero] at hw;cases hw),none,none,rfl⟩ (λi Z H' _ h=>.of ((s1.trans h.1) _ _ BT)) ?_ ?_
 .rintro i x Z H2 Cl ⟨s2,dl,v3,v4,rfl⟩;obtain⟨n,d,b,v,h1,rfl,h3,h4⟩:=hw.get Cl;have EX:=s1.trans s2;fail "r";refine⟨b,_,rfl,.of (EX _ _ h3),rfl,_,_,rfl,_,_,rfl,rfl,p1,_,rfl,.inl (.of (s2 _ _ EW)),rfl,?_,_,rfl,?_⟩
  .exact all_eq_true.mpr λy hy=>by obtain⟨z,_,rfl⟩:=mem_map.mp hy;rfl
  have e:inV (tV n) ((gapsM cs).map tV)=decide (n∈gapsM cs):=yw n (gapsM cs);rw[e];by_cases hg:n∈gapsM cs
  .rw[decide_eq_true hg];refine ite2 (λz=>absurd z (by decide)) (λ_=>⟨s2,λw mt=>?_,_,_,rfl,rfl⟩);rw[take_add_one,h1] at mt;rcases mem_append.mp mt with z|z
   .exact dl w z
   .have:w=(n,d):=by simpa using z
    rw[this];exact hg
  .rw[mG h1 dl hg] at hO;cases hO
 .rintro Z H2 ⟨s2,dl,v3,v4,rfl⟩;exact k H2 (s1.trans s2)
theorem sC:g.D2.Ok P w base 3 (sp_worth_more K):=by
 refine lnF fG ?_;rintro Fo A Cl s H vs Q E hr ⟨cs,ds,xs,ys,p,q,p',q',e,e',rfl,hp,hq,hx,EY,BT,hy,Fn,Fm,oc,od,k⟩
 nomatch (a9 (bC PassesOwn.never rfl (gW (K:=K) rfl rfl g.eS.1 (a8 (by fail "D") (a8 (by fail "D") aB))) (bo (n:=2) (K:=K) rfl rfl (af (pgn 2 fG.nd) (af (pgn 3 fG.nd) bS)))
   (aD (aS (by fail "D")
    (aD (aQ (pcm (AY (K:=K) rfl hr.units) (by fail "D") (by fail "D")))) aT)))
   (aD (by fail "D"))),fG.nd,E8,g.bP,g.aK,hint 7 0
 fail "r";have Fl:=hx.length;have Fk:=hy.length;refine⟨_,_,.inr hp,a0 (j:=0) rfl,_,_,.inr EY,a0 (j:=0) rfl,q,q',xs,ys,⟨rfl,rfl⟩,hq,BT,?_⟩;refine A4 (λi Z H'=>Same H H'/\Ex2 λ(v2 v3:Option V)=>Z=[some (.ref p),some (.ref p'),v2,v3]/\moreM cs ds=moreM (cs.drop i) (ds.drop i)) ⟨Same.refl _,none,none,rfl,rfl⟩ (λi Z H' hi ⟨s,_⟩=>⟨s.tup hq,s.tup BT⟩) ?_ ?_
 .rintro i x y Z H1 T Fe Fc ⟨s1,v2,v3,rfl,hm⟩ hT;obtain⟨c,pc,hc,rfl,EX⟩:=hx.get Fe;obtain⟨d,pd,hd,rfl,EW⟩:=hy.get Fc;have s2:=s1.trans (aN (o:=.tup [.ref pc,.ref pd]) hT);refine⟨T,_,rfl,.of aC,rfl,_,_,rfl,_,_,rfl,rfl,?_⟩;fail "r";generalize upd H1 T (.tup [.ref pc,.ref pd])=H2 at s2;have Fb:=oc c (mem_of_getElem? hc);have Fa:=od d (mem_of_getElem? hd);refine⟨c,pc,rfl,s2.tup EX,Fb,λr3 H3 s3 Fi=>?_⟩;have EZ:=s2.trans s3;refine⟨d,pd,rfl,EZ.tup EW,Fa,λr4 H4 s4 Fh=>?_⟩;have mt:=EZ.trans s4;refine⟨.tuple ((worthM c).map PyData.int),.tuple ((worthM d).map PyData.int),.tup (s4 _ _ Fi) (gq _),.tup Fh (gq _),mX _,mX _,_,rfl,?_⟩;rw[B7];have ec:cs.drop i=c::cs.drop (i+1):=by obtain⟨h1,h2⟩:=List.getElem?_eq_some_iff.mp hc;rw[<- h2];exact drop_eq_getElem_cons h1
  have ed:ds.drop i=d::ds.drop (i+1):=by obtain⟨h1,h2⟩:=List.getElem?_eq_some_iff.mp hd;rw[<- h2];exact drop_eq_getElem_cons h1
  have ld:moreM cs ds=if worthM c=worthM d then moreM (cs.drop (i+1)) (ds.drop (i+1)) else HT.lexLt (worthM d) (worthM c):=by rw[hm,ec,ed];rfl
  refine ite2 (λdl=>?_) (λdl=>?_)
  .have dl:¬ worthM c=worthM d:=by simpa using dl
   refine⟨c,pc,rfl,mt.tup EX,Fb,λr5 H5 s5 Fg=>⟨d,pd,rfl,(mt.trans s5).tup EW,Fa,λr6 H6 s6 Ff=>?_⟩⟩;refine⟨r5,r6,worthM c,worthM d,rfl,rfl,.of (s6 _ _ Fg),.of Ff,?_⟩;rw[if_neg dl] at ld;rw[<- ld];exact k H6 ((mt.trans s5).trans s6)
  .have dl:worthM c=worthM d:=by simpa using dl
   rw[if_pos dl] at ld;exact⟨mt,_,_,⟨rfl,rfl⟩,ld⟩
 .rintro Z H1 ⟨s1,v2,v3,rfl,hm⟩;fail "r";refine⟨_,_,.inr (s1.tup hp),a0 (j:=0) rfl,xs,.inr (s1.tup hq),_,_,.inr (s1.tup EY),a0 (j:=0) rfl,ys,.inr (s1.tup BT),?_⟩;have e1:moreM cs ds=decide ((xs.length:Int) < (ys.length:Int)):=by
   rw[hm,Fl,Fk];have Fj:cs.drop (min cs.length ds.length)=[]\/ds.drop (min cs.length ds.length)=[]:=by simp only[List.drop_eq_nil_iff];lia
   have hl:(cs.drop (min cs.length ds.length)).length < (ds.drop (min cs.length ds.length)).length↔(cs.length:Int) < (ds.length:Int):=by rw[length_drop,length_drop];lia
   rw[<- decide_eq_decide.mpr hl];exact AZ Fj
  fail "r";rw[<- e1];exact k H1 s1
theorem Ek:g.D3.Ok P w base 3 (sp_taken_door K g.aH):=by
 refine lnF ir ?_;rintro Fq A EX s H vs Q E hr ⟨p,t,w',r,i,o,rfl,dl,hi,hl,Fj,hd,hw,Fe,hh,k⟩
 nomatch (a9 (aS (aj (aW (ac (pv 0) g.aI g.ax (b9 g) (hr.mono (by decide)) g.aw .nil pass0 (a8 aO aB))))
    (by fail "D") aT)
   (a9 (aS (aj (aW (ac (pv 0) g.aI g.cr (fQ g) (hr.mono (by decide)) g.ci .nil pass0 (a8 (by fail "D") aB))))
    (by fail "D") aT)
   (a9 (sx 1 ir.nd (bU gJ rfl g.cf.1 fc (a8 (bT (pv 0) g.aI g.bv (d7 g) (hr.mono (by decide)) g.bt .nil pass0) aB)))
   (a9 (cC PassesOwn.never (PW.pt (bf (by fail "D") (bf (aW (ac (pv 0) g.aI g.cr (fQ g) (hr.mono (by decide)) g.ci .nil pass0 (a8 (by fail "D") aB))) (bz (by fail "D")))))
   (a9 (by fail "D")
   (aD (bi (bT (pv 0) g.aI g.bv (d7 g) (hr.mono (by decide)) g.bt .nil pass0)))))
   (aD (by fail "D")))))),ir.nd,DU,g.oi,g.iW,hint 1 369
 have eF:iP=.str ⟨fgS.toArray⟩:=by show V.str (ofString _)=_;unfold fgS;simp
 have e1:ofString ":"=⟨[58].toArray⟩:=by fail "k"
 rw[eF,e1];fail "r";cases o with
 |none=>have hw:w'=[]:=hw;subst hw;refine aL dl (be dl hi hl hd (hh rfl) ⟨_,rfl,?_⟩);rw[if_pos rfl];exact k H (SameBut.refl _ _) dl
 |some n=>
  obtain⟨ds,rfl,Ff,EZ,rfl,Fo,hz⟩:=hw;refine aL dl (ay (w:=[58]) (r:=ds++r) dl hi hl hd λH1 s1 c1 EY EW=>⟨_,rfl,?_⟩);rw[if_neg (by decide)];cases ds with
  |nil=>exact absurd rfl Ff
  |cons d0 ds0=>
  have Fi:=EZ d0 (mem_cons_self ..);obtain⟨hx,Fl⟩:=dh EW;refine aL c1 ⟨p,t,fgS,_,rfl,c1,EY,hl,_,rfl,?_⟩;rw[bM hx,decide_eq_true (dk.mpr Fi),if_neg (by decide)];refine aL c1 ⟨p,t,_,d0,rfl,c1,hx,hl,λH2 s2 c2=>⟨_,_,rfl,by show 1<=640;decide,lQ d0 (by lia) Fi.1,?_⟩⟩;have Fp:=s1.trans s2;have Fk:valD [d0]=d0 - 48:=by unfold valD;simp
  rw[<- Fk];refine cN (λm Z H'=>Ex2 λ(dn es:Tq)=>m=es.length/\Z=[some (.ref p),some (.int (valD dn:Nat))]/\dn≠[]/\d0::ds0=dn++es/\SameBut p H H'/\Cur H' g.aH p t (i+1+dn.length)) ds0.length ⟨[d0],ds0,rfl,rfl,by simp,rfl,Fp,c2⟩ ?_;rintro m Z H3 ⟨dn,es,rfl,rfl,Fa,ld,s3,c3⟩;have Fb:t.drop (i+1+dn.length)=es++r:=by rw[<- drop_drop,show i+1=i+[58].length from rfl,EW,ld,append_assoc,drop_left]
  have Fh:i+1+dn.length<=t.length:=by have:=congrArg List.length EW;rw[length_drop,ld,length_append,length_append] at this;simp only[length_singleton] at this EY;lia
  have Fm:valD dn<=65535:=by have:=dm es dn;rw[<- ld] at this;lia
  have BT:es=[]->Q (.int (valD dn:Nat)) H3:=λe=>by subst e;rw[append_nil] at ld;rw[ld] at k;refine k H3 s3 ?_;rw[show i+(58::dn).length=i+1+dn.length by simp only[length_cons];lia];exact c3
  fail "r";have mt:valD dn=0->es=[]:=λe=>by
   rcases hz with z|z
   .rw[z] at ld;have:=congrArg List.length ld;have h1:0 < dn.length:=length_pos_iff.mpr Fa;rw[length_append] at this;simp only[length_singleton] at this;exact length_eq_zero_iff.mp (by lia)
   .cases dn with
    |nil=>exact absurd rfl Fa
    |cons a b=>
     have e0:d0=a:=by injection ld
     subst e0;have h9:d0≠48:=λz'=>z (by rw[z'];rfl);have:=lP (ds:=d0::b) rfl (by lia);lia
  by_cases h0:valD dn=0
  .rw[if_neg (by lia)];exact BT (mt h0)
  rw[if_pos (by lia)];refine aL c3 ⟨p,t,fgS,_,rfl,c3,Fh,hl,_,rfl,?_⟩;cases es with
  |nil=>
   have hb:seesB t fgS (i+1+dn.length)=false:=by
    cases hc:t[i+1+dn.length]? with
    |none=>exact gN hc
    |some c=>rw[bM hc];refine decide_eq_false λFg=>Fe c ?_ (dk.mp Fg);rw[<- hc,<- List.head?_drop,Fb];rfl
   rw[hb,if_neg (by decide)];exact BT rfl
  |cons c es1=>
   have hc:=EZ c (by rw[ld];simp);obtain⟨Cl,Fc⟩:=dh Fb;have Fn:valD dn * 10+(c - 48)<=65535:=by have:=dm es1 (dn++[c]);rw[bb,append_assoc,show [c]++es1=c::es1 from rfl,<- ld] at this;lia
   rw[bM Cl,decide_eq_true (dk.mpr hc),if_pos rfl];refine⟨p,t,_,c,valD dn,rfl,c3,hl,Cl,hc.1,hc.2,by lia,_,_,rfl,rfl,_,rfl,?_⟩;rw[decide_eq_true (by lia),if_pos rfl];refine⟨_,λ_ _ h=>h,p,t,_,c,valD dn,rfl,c3,hl,Cl,hc.1,hc.2,by lia,aL c3 ⟨p,t,_,c,rfl,c3,Cl,hl,λH4 s4 c4=>⟨es1.length,Nat.lt_succ_self _,dn++[c],es1,rfl,by rw[bb],by simp,by rw[ld,append_assoc];rfl,s3.trans s4,?_⟩⟩⟩;rw[length_append];exact c4
theorem El:g.D4.Ok P w base 3 (sp_taken_pair K g.aH):=by
 refine lnF iu ?_;rintro EY A ld s H vs Q E hr ⟨p,t,r,i,a,b,c,rfl,dl,hd,hs,hl,k⟩
 nomatch (a9 (aS (aj (aW (ac (pv 0) g.aI g.cr (fQ g) (hr.mono (by decide)) g.ci .nil pass0 (a8 (by fail "D") aB))))
    (by fail "D") aT)
   (a9 (sx 1 iu.nd (aX (dL (K:=K) rfl) (bT (pv 0) g.aI g.bv (d7 g) (hr.mono (by decide)) g.bt .nil pass0) (by fail "D")))
   (a9 (by fail "D")
   (a9 (by fail "D")
   (a9 (bi (bT (pv 0) g.aI g.bv (d7 g) (hr.mono (by decide)) g.bt .nil pass0))
   (aD (by fail "D"))))))),iu.nd,rz,hint 1 421,g.ow,hint 1 417
 obtain⟨hf,ha,hb,EX⟩:=gL hs;have Cl:i+2<=t.length:=by have:=congrArg List.length hd;rw[length_drop] at this;simp only[length_cons] at this;lia
 have mt:t[i]?=some a:=by rw[<- List.head?_drop,hd];rfl
 have EW:t[i+1]?=some b:=by rw[<- List.head?_drop,<- drop_drop,hd];rfl
 have eF:o6=.str ⟨[50,51,52,53,54,55].toArray⟩:=by show V.str (ofString "234567")=_;rw[show ofString "234567"=⟨[50,51,52,53,54,55].toArray⟩ by fail "k"]
 have hf:a∈[50,51,52,53,54,55]:=by rw[show (ofString "234567").cps.toList=[50,51,52,53,54,55] by fail "k"] at hf;exact hf
 fail "r";rw[eF];refine aL dl ⟨p,t,_,i,rfl,dl,by lia,hl,_,rfl,?_⟩;rw[bM mt,decide_eq_true hf,if_neg (by decide)];refine aL dl ⟨p,t,i,a,rfl,dl,mt,hl,λH1 s1 c1=>?_⟩;refine bZ c1 g.aI g.bJ (bG c1 g.aI g.ai ⟨_,rfl,bG c1 g.aI g.ai ?_⟩);fail "r";rw[show ((i+1:Nat):Int)+1=((i+2:Nat):Int) by lia,dQ,show i+2 - (i+1)=1 by lia,<- drop_drop,hd,show List.take 1 (List.drop 1 (a::b::r))=[b] from rfl];fail "r";refine⟨aA hl,by decide,by decide,λd BT=>?_,?_⟩
 .simp only[mem_cons,not_mem_nil,or_false] at BT;rcases BT with rfl|rfl
  .exact ha
  .exact hb
 rw[show signOfL [a,b]=signOf a b from rfl,kK,hs,if_neg (by intro z;cases z)];exact aL c1 ⟨p,t,i+1,b,rfl,c1,EW,hl,λH2 s2 c2=>k H2 (s1.trans s2) c2⟩
theorem jB:g.oF.Ok P w base 3 (sp__law_step K):=by
 refine lnF rJ ?_;rintro Cl A ld s H vs Q E hr ⟨c,rfl,k⟩
 exists rJ.nd,fR,hint 2 0,hint 10 0,hint 0 456
 have d1:ofString ".."=⟨sUp.toArray⟩:=by fail "k"
 have d2:ofString "."=⟨sStay.toArray⟩:=by fail "k"
 rw[d1,d2];fail "r";refine⟨c,rfl,λl H1 hl hs s1=>?_⟩;refine⟨λZ H2=>Same H H2/\∃l:Tq,0 < l.length/\l.length<=5/\(∀c∈l,isSg c=true)/\isDot l=false/\Z=[some (.int c),some (tV l)],?_,?_⟩
 .refine⟨by decide,λp H2 n2 s2 e2=>?_⟩;refine⟨p,_,rfl,.inr (.of e2),rfl,rfl,_,rfl,?_⟩;show if (if false then _ else inV (sV l) [sV [],sV sStay,sV sUp])=true then _ else _;rw[if_neg (show ¬ false=true by decide),An];refine ite2 (λdl=>?_) (λdl=>?_)
  .obtain⟨d,hd,BT⟩:=dR (ofString "ab1z").cps.toList (c / 30) 4 (by decide) (by fail "k");have mt:d≠46/\isSg d=true:=by
    rw[show (ofString "ab1z").cps.toList=[97,98,49,122] by fail "k"] at hd;simp only[mem_cons,not_mem_nil,or_false] at hd;rcases hd with rfl|rfl|rfl|rfl <;> decide
   refine⟨⟨by decide,by decide⟩,by decide,d,by fail "k",BT,?_⟩;fail "r";refine⟨aA (by lia),s1.trans s2,l++[d],by simp,by simp;lia,λe he=>?_,Ao l d mt.1,by simp⟩;rcases mem_append.mp he with z|z
   .exact hs e z
   .rw[mem_singleton.mp z];exact mt.2
  .simp only[Bool.or_eq_true,decide_eq_true_eq,not_or,Bool.not_eq_true] at dl;exact⟨s1.trans s2,l,length_pos_iff.mpr dl.1,by lia,hs,dl.2,rfl⟩
 rintro Z H2 ⟨s2,l,h1,h2,h3,h4,rfl⟩;fail "r";exact k l H2 h1 h2 h3 h4 s2
theorem Em:g.oG.Ok P w base 3 (sp__law_piece_text K):=by
 refine lnF rK ?_;rintro Fe A Cl s H vs Q E hr ⟨c,p,q,is,rfl,hp,ok,hn,hq,hl,k⟩
 exists rK.nd,E9,hint 2 0
 have b1:ofString "{"=⟨[123].toArray⟩:=by fail "k"
 have b2:ofString "}"=⟨[125].toArray⟩:=by fail "k"
 have b3:ofString ":"=⟨[58].toArray⟩:=by fail "k"
 rw[b1,b2,b3];fail "r";have w1:ofString "number"=⟨[110,117,109,98,101,114].toArray⟩:=by fail "k"
 have w2:ofString "word"=⟨[119,111,114,100].toArray⟩:=by fail "k"
 have w3:ofString "rest"=⟨[114,101,115,116].toArray⟩:=by fail "k"
 obtain⟨n1,n2,n3,n4,n5,n6,n7,n8,n9,Fc,EY,Fb,EX,Fa,EW⟩:=BO;have ad:∀{a b:Tq}{H1:Hp}{Q1:VK},a.length+b.length<=2000->Q1 (tV (a++b)) H1->rAddS K (tV a) (tV b) H1 Q1:=λhl h=>ae.mpr ⟨aA (by rw[aG,aG];lia),by rw[aU];exact h⟩;have no:∀{a b:Str},a≠b->¬ decide (a=b)=true:=λh z=>h (of_decide_eq_true z);have named:∀(kw:Str) (n w:Tq),kw=⟨w.toArray⟩->kw≠ofString "gap" -> w.length<=6->SqT K H p [.str kw,tV n]->NmOk n->Q (tV (123::(n++58::(w++[125])))) H->IxE K H p 0 λv=>rEq v (V.str (ofString "gap")) H λx H'=>∃k,x=V.bl k/\if k=true then IxE K H' p 1 λv=>rAddS K (V.str ⟨[123].toArray⟩) v H' λx H1=>rAddS K x (V.str ⟨[125].toArray⟩) H1 Q else IxE K H' p 1 λv=>rAddS K (V.str ⟨[123].toArray⟩) v H' λx H1=>rAddS K x (V.str ⟨[58].toArray⟩) H1 λx H1=>IxE K H1 p 0 λv=>rAddS K x v H1 λx H1=>rAddS K x (V.str ⟨[125].toArray⟩) H1 Q:=λkw n w e EZ hl hp ld hk=>by have:=ld.1;refine⟨_,_,.inr hp,a0 (j:=0) rfl,aF.mpr ⟨_,rfl,ite2 (λz=>absurd z (no EZ)) (λ_=>⟨_,_,.inr hp,a0 (j:=1) rfl,?_⟩)⟩⟩;refine ad (a:=[123]) (by simp only[length_cons,length_nil];lia) (ad (b:=[58]) (by simp only[length_append,length_cons,length_nil];lia) ⟨_,_,.inr hp,a0 (j:=0) rfl,?_⟩);rw[e];refine ad (by simp only[length_append,length_cons,length_nil];lia) (ad (b:=[125]) (by simp only[length_append,length_cons,length_nil];lia) ?_);simpa using hk
 have BT:∀w:Tq,PcW c w->w=pcT c->w.length<=700->Q (tV w) H:=λw h1 h2 h3=>k w H h1 h3 (λ_=>h2) (Same.refl _);have dl:SqT K H p c.vals:=.of hp;cases c with
 |step s=>exact⟨_,_,.inr dl,a0 (j:=0) rfl,aF.mpr ⟨_,rfl,ite2 (λ_=>⟨_,_,.inr dl,a0 (j:=1) rfl,s,q,is,rfl,hq,hl,ok.2.2.1,by have:=ok.2.1;lia,λw H' h1 h2 h3 sm=>k w H' (.step h1 (length_pos_iff.mp ok.1)) (by have:=ok.2.1;lia) h3 sm⟩) (λz=>absurd (decide_eq_true rfl) z)⟩⟩
 |part h n t=>obtain⟨o1,o2,o3,o4,o5⟩:=ok;have ld:=hn rfl;have mt:n.length<=8:=ld.1.2;refine⟨_,_,.inr dl,a0 (j:=0) rfl,aF.mpr ⟨_,rfl,ite2 (λz=>absurd z (no n5)) (λ_=>⟨_,_,.inr dl,a0 (j:=0) rfl,aF.mpr ⟨_,rfl,ite2 (λ_=>⟨_,_,.inr dl,a0 (j:=1) rfl,h,q,is,rfl,hq,hl,o3,o1,λa H1 a1 a2 a3 s1=>?_⟩) (λz=>absurd (decide_eq_true rfl) z)⟩⟩)⟩⟩;refine ad (b:=[123]) (by simp only[length_cons,length_nil];lia) ⟨_,_,.inr (s1.tup dl),a0 (j:=2) rfl,ad (by simp only[length_append,length_cons,length_nil];lia) (ad (b:=[125]) (by simp only[length_append,length_cons,length_nil];lia) ⟨_,_,.inr (s1.tup dl),a0 (j:=3) rfl,t,q,is,rfl,s1 _ _ hq,hl,o4,o2,λb H2 c1 c2 c3 s2=>ad (by simp only[length_append,length_cons,length_nil];lia) ?_⟩)⟩;have:=k (a++123::(n++125::b)) H2 (.part a1 c1 o5 ld) (by simp only[length_append,length_cons];lia) (λz=>by rw[a3 z,c3 z];rfl) (s1.trans s2);simpa using this
 |gap n=>have ld:=hn rfl;have mt:n.length<=8:=ld.1.2;refine⟨_,_,.inr dl,a0 (j:=0) rfl,aF.mpr ⟨_,rfl,ite2 (λz=>absurd z (no n3)) (λ_=>⟨_,_,.inr dl,a0 (j:=0) rfl,aF.mpr ⟨_,rfl,ite2 (λz=>absurd z (no n8)) (λ_=>⟨_,_,.inr dl,a0 (j:=0) rfl,aF.mpr ⟨_,rfl,ite2 (λ_=>⟨_,_,.inr dl,a0 (j:=1) rfl,?_⟩) (λz=>absurd (decide_eq_true rfl) z)⟩⟩)⟩⟩)⟩⟩;refine ad (a:=[123]) (by simp only[length_cons,length_nil];lia) (ad (b:=[125]) (by simp only[length_append,length_cons,length_nil];lia) ?_);have:=BT _ (.gap ld) rfl (by simp only[length_append,length_cons,length_nil];lia);simpa using this
 |num n=>have ld:=hn rfl;have mt:n.length<=8:=ld.1.2;exact⟨_,_,.inr dl,a0 (j:=0) rfl,aF.mpr ⟨_,rfl,ite2 (λz=>absurd z (no n1)) (λ_=>⟨_,_,.inr dl,a0 (j:=0) rfl,aF.mpr ⟨_,rfl,ite2 (λz=>absurd z (no n6)) (λ_=>named _ n _ w1 EY.symm (by decide) dl ld (BT _ (.num ld) rfl (by simp only[length_append,length_cons,length_nil];lia)))⟩⟩)⟩⟩
 |word n=>have ld:=hn rfl;have mt:n.length<=8:=ld.1.2;exact⟨_,_,.inr dl,a0 (j:=0) rfl,aF.mpr ⟨_,rfl,ite2 (λz=>absurd z (no n2)) (λ_=>⟨_,_,.inr dl,a0 (j:=0) rfl,aF.mpr ⟨_,rfl,ite2 (λz=>absurd z (no n7)) (λ_=>named _ n _ w2 EX.symm (by decide) dl ld (BT _ (.word ld) rfl (by simp only[length_append,length_cons,length_nil];lia)))⟩⟩)⟩⟩
 |rest n=>have ld:=hn rfl;have mt:n.length<=8:=ld.1.2;exact⟨_,_,.inr dl,a0 (j:=0) rfl,aF.mpr ⟨_,rfl,ite2 (λz=>absurd z (no n4)) (λ_=>⟨_,_,.inr dl,a0 (j:=0) rfl,aF.mpr ⟨_,rfl,ite2 (λz=>absurd z (no n9)) (λ_=>named _ n _ w3 EW (by decide) dl ld (BT _ (.rest ld) rfl (by simp only[length_append,length_cons,length_nil];lia)))⟩⟩)⟩⟩
theorem jC:FnOk P w K mg base CX0 4 g.eu g.cj ["text","free"] q0:=by
 refine g.ck.ok rL (λvs H Q E h=>?_) (λFf A EY s H vs Q E hr h=>?_)
 .obtain⟨l,fr,rfl,_⟩:=h;rfl
 .obtain⟨l,fr,rfl,hl,ha,k⟩:=h
  exists rL.nd,Ea,g.aK
  fail "r";refine⟨by decide,λq hq=>?_⟩;refine cN (λm Z H'=>Ex4 λ(p:Nat) (dn:Tq) (v4 v5:Option V)=>m=l.length - p/\Z=[some (.str ⟨l.toArray⟩),some (.str ⟨fr.toArray⟩),some (.ref q),some (.int (p:Int)),v4,v5]/\p<=l.length/\dn.length<=p/\
   H' q=some (.lst (dn.map one))/\Same H H'/\und fr l=(und fr (l.drop p)).map (dn++·)) l.length ⟨0,[],none,none,by simp,rfl,Nat.zero_le _,Nat.le_refl _,aC,y0 hq,by simp⟩ ?_
  rintro m Z H' ⟨p,dn,v4,v5,rfl,rfl,hp,Fe,BT,sm,hu⟩;fail "r";refine⟨aA (by lia),ite2 (λh=>?_) (λh=>?_)⟩
  .have Fc:p < l.length:=by lia
   refine⟨_,λ_ _ h=>h,?_⟩;have hc:l[p]?=some l[p]:=List.getElem?_eq_getElem Fc;generalize l[p]=c at hc;have hd:=y8 hc;refine⟨c,aA (by lia),a0 hc,?_⟩;have mt:∀y,Same H (upd H' q (.lst y)):=λy b o e=>by rw[aE (aJ e hq)];exact sm _ _ e
   have Cl:(dn.map one).length < sizeLine:=by rw[length_map];exact Nat.lt_of_le_of_lt (show dn.length<=2000 by lia) (by decide)
   refine ite2 (λh2=>?_) (λh2=>?_)
   .have dl:c=126:=by have:=aR.mp h2;injection this
    subst dl;refine⟨aA (by lia),?_⟩;rw[show ((p:Int)+3)=((p+3:Nat):Int) by lia,dQ,show p+3 - p=3 by lia,hd,List.take_succ_cons];refine c_sw.mpr ⟨by rw[length_take];lia,λd EX=>?_,.inl rfl,?_⟩
    .rcases mem_cons.mp EX with rfl|q'
     .decide
     .exact ha d (mem_of_mem_drop (mem_of_mem_take q'))
    rw[kP];have ld:(l.drop p).length=l.length - p:=length_drop;rw[hd] at ld;generalize l.drop (p+1)=r at hd ld ⊢;rw[length_cons] at ld;by_cases Fa:2<=r.length
    .obtain⟨a,b,r',rfl⟩:∃a b r',r=a::b::r':=by
      match r,Fa with
      |a::b::r',_=>exact⟨a,b,r',rfl⟩
     rw[show signOfL (List.take 2 (a::b::r'))=oV (sgO a b) from kK a b];rw[length_cons,length_cons] at ld;cases e:sgO a b with
     |none=>have k2:=k H' sm;rw[hu,hd,xv e] at k2;exact k2
     |some d=>rw[if_neg (by intro z;cases z)];refine⟨⟨_,SqL.of BT⟩,dn.map one,BT,Cl,l.length - (p+3),by lia,p+3,dn++[d],_,_,rfl,rfl,by lia,by rw[length_append,length_singleton];lia,?_,mt _,yA hu hd e⟩;rw[aC];exact congrArg (λz=>some (HO.lst z)) (kT dn d)
    .have EW:r.length < 2:=by lia
     have k2:=k H' sm;rw[hu,hd,xw EW] at k2;rw[show signOfL (List.take 2 r)=V.non from kI (by rw[length_take];lia)];exact k2
   .have dl:c≠126:=λz=>h2 (by rw[z]);refine⟨aA (by lia),?_⟩;rw[show ((p:Int)+1)=((p+1:Nat):Int) by lia,dQ,show p+1 - p=1 by lia,hd,List.take_succ_cons,take_zero];refine c_sw.mpr ⟨by simp,λd EX=>?_,.inr rfl,?_⟩
    .rw[mem_singleton.mp EX];exact ha c (mem_of_getElem? hc)
    rw[kQ dl];by_cases hb:(isPl c || decide (c∈fr))=true
    .rw[if_pos hb,if_neg (by intro z;cases z)];refine⟨⟨_,SqL.of BT⟩,dn.map one,BT,Cl,l.length - (p+1),by lia,p+1,dn++[c],_,_,rfl,rfl,by lia,by rw[length_append,length_singleton];lia,?_,mt _,yB hu hd dl hb⟩;rw[aC];exact congrArg (λz=>some (HO.lst z)) (kT dn c)
    .rw[if_neg hb,if_pos rfl];have k2:=k H' sm;rw[hu,hd,xx dl hb] at k2;exact k2
  .have Fb:p=l.length:=by lia
   rw[Fb,drop_length,kL] at hu;have EZ:und fr l=some dn:=by rw[hu];simp
   refine⟨dn.map λc=>⟨[c].toArray⟩,SqL.of (by rw[BT,map_map];rfl),?_,?_⟩
   .rw[kS];simp only[length_map,length_nil,Nat.mul_zero,Nat.add_zero];lia
   .rw[fu,kR];have k2:=k H' sm;rw[EZ] at k2;exact k2
theorem En:g.D5.Ok P w base 4 (sp_shown_question K):=by
 refine lnF rM ?_;rintro EY A dl s H vs Q E hr ⟨q,v,rfl,hI,hq,hl,k⟩
 nomatch (a9 (by fail "D")
   (aD (aQ (aX (dL (K:=K) rfl) aO (aZ (K:=K) rfl PySem.F.plainAttrs_str PySem.F.slot_str_join PySem.F.type_str_join (dM (K:=K) rfl) aO (a8 (cmp2 K [] [] (bE (K:=K) rfl (pv 0)) al (aY g.oC (Ee g) hr rfl (a8 (pv 0) (a8 (pv 1) aB)))) aB)))))),rM.nd
 have c1:ofString "?"=⟨[63].toArray⟩:=by fail "k"
 have c2:ofString "&"=⟨[38].toArray⟩:=by fail "k"
 rw[c1,c2];fail "r";cases q with
 |none=>cases hI;exact ite2 (λ_=>k H (Same.refl _)) (λz=>absurd rfl z)
 |some ps=>
  obtain⟨p,xs,rfl,hp,r⟩:=cR hI;refine ite2 (λz=>by cases z) (λ_=>?_);obtain⟨EX,ld⟩:=hq ps rfl;have Cl:=r.length;rw[length_map] at Cl;refine⟨p,rfl,⟨_,hp⟩,λp1 BT=>?_⟩;refine yu (f:=λi=>match ps[i]? with|some p=>(.str ⟨p.1.toArray⟩,otV p.2)|none=>(.non,.non)) (zs:=(ps.map pairT).map λl=>V.str ⟨l.toArray⟩) hp (aA (by lia)) BT (by simp;lia) (λi x H' hx sm=>?_) (λi z hi hz H' T sm hT=>?_) (λH' sm mt=>?_)
  .have hi:i < ps.length:=by have:=(List.getElem?_eq_some_iff.mp hx).1;lia
   have he:ps[i]?=some ps[i]:=by simp[hi]
   obtain⟨b,x1,x2,rfl,hb,b1,b2⟩:=isK2 (lU r (by rw[List.getElem?_map,he];rfl) hx);cases da b1;cases gG b2;refine⟨b,rfl,?_⟩;rw[he];exact sm.tup hb
  .have hi:i < ps.length:=by lia
   have he:ps[i]?=some ps[i]:=by simp[hi]
   rw[List.getElem?_map,List.getElem?_map,he] at hz;simp only[Option.map_some,Option.some.injEq] at hz;subst hz;obtain⟨k1,k2,k3⟩:=ld ps[i] (getElem_mem hi);rw[he];fail "r";exact⟨ps[i].1,ps[i].2,rfl,k1,k2,k3,hT⟩
  .fail "r";have hj:=kt (sep:=38) (ps.map pairT);have EW:(queT (some ps)).length=(joinT 38 (ps.map pairT)).length+1:=by simp[queT]
   refine⟨(ps.map pairT).map λl=>⟨l.toArray⟩,by rw[map_map (f:=λl:Tq=>(⟨l.toArray⟩:Str)) (g:=V.str)];exact .of mt,?_,?_⟩
   .rw[kz,length_map];have:((ps.map pairT).map List.length).sum+(ps.map pairT).length<=(joinT 38 (ps.map pairT)).length+1:=hj;lia
   rw[show (⟨#[38]⟩:Str)=⟨[38].toArray⟩ from rfl,gF,show (⟨#[63]⟩:Str)=⟨[63].toArray⟩ from rfl];fail "r";refine⟨aA (by lia),?_⟩;have:=k H' sm;simpa [queT] using this
theorem Eo:g.oH.Ok P w base 4 (sp_is_piece K):=by
 refine lnF rN ?_;rintro ld A dl s H vs Q E hr ⟨c,v,rfl,hv,ok,hn,k⟩
 nomatch (a9 (by fail "D")
   (a9 (by fail "D")
   (a9 (by fail "D")
   (aD (aQ (bB (dE (gH (K:=K) rfl) (by fail "D") (dA (v:=.ref g.fC) rfl g.pT rfl) (by with_unfolding_all rfl)) (bB (by fail "D") (bR (by fail "D"))))))))),rN.nd,E2,rn,Eg,fO,jA,g.b8,g.au,g.aK,g.av
 obtain⟨p,rfl,hp⟩:=iH hv.is;have i0:=hv.is;have hq:SqT K H p c.vals:=.of hp;fail "r";refine⟨_,L2.cO hp,ite2 (λz=>absurd z (by decide)) (λ_=>⟨_,.inr hq,ite2 (λz=>absurd z (by show ¬ (((_+1:Nat):Int)=0);lia)) (λ_=>⟨_,_,.inr hq,c.at0,⟨_,L2.k9,ite2 (λz=>absurd z (by decide)) (λ_=>⟨_,_,.inr hq,c.at0,aF.mpr ⟨_,rfl,?_⟩⟩)⟩⟩)⟩)⟩;rw[cU];rcases BU c with⟨s,rfl⟩|⟨a,n,t,rfl⟩|⟨h1,h2,h3,h4⟩
 .refine ite2 (λ_=>⟨_,_,_,rfl,i0,_,rfl,ite2 (λ_=>⟨_,_,.inr hq,a0 (j:=1) rfl,_,_,rfl,.str _,iK (by have:=ok.2.1;lia),λH1 s1=>⟨_,rfl,ite2 (λ_=>⟨_,_,.inr (s1.tup hq),a0 (j:=1) rfl,s,rfl,_,rfl,?_⟩) (λz=>absurd ?_ z)⟩⟩) (λz=>absurd (eI (n:=2).mpr rfl) z)⟩) (λz=>absurd rfl z)
  .rw[ok.2.2.2];exact k H1 s1
  .show (s.all isSg && decide (0 < (mkS s).length))=true;rw[aG,decide_eq_true ok.1,all_eq_true.mpr ok.2.2.1];rfl
 .refine ite2 (λz=>by cases z) (λ_=>⟨_,_,.inr hq,a0 (j:=0) rfl,aF.mpr ⟨_,rfl,ite2 (λ_=>⟨_,_,_,rfl,i0,_,rfl,ite2 (λ_=>⟨_,_,.inr hq,a0 (j:=2) rfl,n,rfl,hn rfl,λH1 s1=>⟨_,rfl,ite2 (λ_=>⟨_,_,.inr (s1.tup hq),a0 (j:=1) rfl,_,_,.inr (s1.tup hq),a0 (j:=3) rfl,a,t,rfl,ok.1,ok.2.1,ok.2.2.1,ok.2.2.2.1,ok.2.2.2.2,λH2 s2=>k H2 (s1.trans s2)⟩) (λz=>absurd rfl z)⟩⟩) (λz=>absurd (eI (n:=4).mpr rfl) z)⟩) (λz=>absurd (decide_eq_true rfl) z)⟩⟩)
 .have hw:c.vals=[.str c.kw,tV c.name]:=by unfold Pc.vals;rw[h3]
  rw[hw] at hq;rw[h1];refine ite2 (λz=>by cases z) (λ_=>⟨_,_,.inr hq,a0 (j:=0) rfl,aF.mpr ⟨_,rfl,?_⟩⟩);rw[ao,h2];refine ite2 (λz=>by cases z) (λ_=>⟨_,_,.inr hq,a0 (j:=0) rfl,_,kwN.map V.str,rfl,.inr (nL (ss:=kwN) (g.pU H)),rfl,rfl,_,rfl,?_⟩);rw[if_neg (show ¬ false=true by decide),iG];exact ite2 (λ_=>⟨_,_,_,rfl,i0,_,rfl,ite2 (λ_=>⟨_,_,.inr hq,a0 (j:=1) rfl,_,rfl,hn h1,k⟩) (λz=>absurd (by cases c <;> first|exact eI (n:=2).mpr rfl|cases h2) z)⟩) (λz=>absurd (decide_eq_true h4) z)
theorem sD:g.oI.Ok P w base 4 (sp_fits K):=by
 refine lnF rO ?_;rintro Fg A Cl s H vs Q E hr ⟨cs,xs,p,q,pw,ps,cl,r,e,ss,rfl,hp,hq,hx,hn,hz,hw,EX,Fa,Fb,k⟩
 nomatch (a9 (by fail "D")
   (aP (by fail "D")
   (a9 (by fail "D")
   (aD (aQ (bj (bn (K:=K) rfl rfl) rfl g.bq.1 PyProof.Rows.boot_all (a8 (cmp2 K [] [] (gW (K:=K) rfl rfl g.eS.1 (a8 (pv 3) (a8 (pv 2) aB))) al (aY g.oE (Ei g) hr rfl (a8 (pv 0) (a8 (pv 1) aB)))) aB))))))),rO.nd,E3,g.ic,g.eR,g.ib,g.aK,g.eQ
 fail "r";refine⟨_,_,.inr hw,a0 (j:=1) rfl,?_⟩;refine⟨λZ H1=>Same H H1/\((spreadM cs ss.length=none/\Z=[some (.ref p),some (.ref pw),some (.ref ps),some .non])\/Ex3 λ(ds:List Pc) (ys:List V) (r':Addr)=>spreadM cs ss.length=some ds/\SqT K H1 r' ys/\PcAll K H1 ds ys/\Z=[some (.ref p),some (.ref pw),some (.ref ps),some (.ref r')]),?_,?_⟩
 .fail "r";refine⟨_,.inr EX,?_⟩;rw[length_map];exact⟨cs,xs,p,q,cl,ss.length,rfl,hp,hq,hx,hn,Fa,λh=>⟨Same.refl _,.inl ⟨h,rfl⟩⟩,λds ys r' H1 h s1 h1 h2=>⟨s1,.inr ⟨ds,ys,r',h,h1,h2,rfl⟩⟩⟩
 rintro Z H1 ⟨s1,⟨h0,rfl⟩|⟨ds,ys,r',h0,EW,hy,rfl⟩⟩
 .fail "r";have e:fitsP cs cl r ss e=false:=by unfold fitsP;rw[h0]
  rw[e] at k;exact k H1 s1
 have ef:fitsP cs cl r ss e=(r && decide (e=cl) && (List.zipWith fitsM ds ss).all id):=by unfold fitsP;rw[h0]
 have EZ:=s1.tup hw;have Ff:=s1.tup hp;have BT:=s1.tup EX;fail "r";refine⟨_,_,.inr EZ,a0 (j:=0) rfl,r,rfl,?_⟩;cases r with
 |false=>refine ite2 (λ_=>?_) (λz=>absurd rfl z);rw[ef] at k;exact k H1 s1
 |true=>
  refine ite2 (λz=>by cases z) (λ_=>?_);refine⟨_,_,.inr EZ,a0 (j:=2) rfl,_,_,.inr Ff,a0 (j:=1) rfl,?_⟩;refine L2.vz.mpr ⟨_,rfl,?_⟩;by_cases mt:e=cl
  .rw[decide_eq_true mt] at ef;refine ite2 (λz=>by rw[decide_eq_true mt] at z;cases z) (λ_=>?_);refine⟨r',ps,ys,ss.map tV,⟨rfl,rfl⟩,EW,BT,λpc nc=>?_⟩;have Fe:=hy.length;have hdl:=ly h0;refine A6 (zs:=(List.zipWith fitsM ds ss).map V.bl) EW BT (aA (by rw[length_map,List.length_zipWith];lia)) nc (by rw[length_map,List.length_zipWith,length_map,Fe]) (λi x y z EY dl ld H2 T s2 hT=>?_) (λH2 s2 e2=>?_)
   .obtain⟨c,p',hc,rfl,Fc⟩:=hy.get EY;obtain⟨s,hs,rfl⟩:∃s,ss[i]?=some s/\tV s=y:=by
     rw[List.getElem?_map] at dl;cases hs:ss[i]? with
     |none=>rw[hs] at dl;cases dl
     |some s=>rw[hs] at dl;exact⟨s,rfl,by simpa using dl⟩
    have ld:V.bl (fitsM c s)=z:=by rw[List.getElem?_map,List.getElem?_zipWith,hc,hs] at ld;simpa using ld
    subst ld;obtain⟨z1,z2⟩:=hz c (Am h0 c (mem_of_getElem? hc));fail "r";exact⟨c,s,p',rfl,s2.tup Fc,Fb s (mem_of_getElem? hs),z1,z2,hT⟩
   .refine⟨pc,_,rfl,.of e2,?_⟩;rw[ef] at k;exact k H2 (s1.trans s2)
  .rw[decide_eq_false mt] at ef;refine ite2 (λ_=>?_) (λz=>by rw[decide_eq_false mt] at z;exact absurd rfl z);rw[ef] at k;exact k H1 s1
theorem Ep:g.oJ.Ok P w base 4 (sp_can_be_step K):=by
 refine lnF rP ?_;rintro ld A dl s H vs Q E hr ⟨d,v,rfl,hv,hs,k⟩
 exists rP.nd,fO,jA
 fail "r";refine⟨d,v,rfl,hv,hs,λH1 s1=>⟨_,rfl,?_⟩⟩;have k1:=k H1 s1;cases hv with
 |str z=>
  have e:canD (.str z)=(ftx (.str z) && !isDot z.cps.toList):=rfl;rw[e] at k1;refine ite2 (λhf=>?_) (λhf=>?_)
  .rw[hf,Bool.true_and] at k1;exact⟨z.cps.toList,rfl,_,rfl,k1⟩
  .rw[Bool.eq_false_iff.mpr hf,Bool.false_and] at k1;exact k1
 |_=>exact ite2 (λz=>by cases z) (λ_=>k1)
theorem Er:g.D6.Ok P w base 4 (sp_worth_most K):=by
 refine lnF rQ ?_;rintro Fg A mt s H vs Q E hr ⟨l,b,L,ws,rfl,hl,hT,EX,hL,k⟩
 exists rQ.nd,sC,hint 4 0
 fail "r";have Ff:=hT.length;rw[length_cons] at Ff;obtain⟨v0,BT⟩:∃v,ws[0]?=some v:=⟨_,List.getElem?_eq_getElem (by lia)⟩;obtain⟨r0,Fb,Fa⟩:=hT.get BT;cases Fb;refine⟨_,_,.inl (.of hl),a0 (j:=0) BT,_,.of hl,λp1 H1 n1 s1 dl=>⟨⟨_,.of dl⟩,?_⟩⟩;rw[show (1:Int)=((1:Nat):Int) from rfl,cV] at dl;have Fe:TbV H1 L (ws.drop 1):=(hT.drop 1).mono s1.toT;have ld:∀n:Nat,PcsOk (mostM mrR b (L.take n)).2.1:=λn=>EX _ (by
  rcases mem_cons.mp (iB (mr:=mrR) (L.take n) b) with h|h
  .rw[h];exact mem_cons_self ..
  .exact mem_cons_of_mem _ (mem_of_mem_take h))
 refine fi (xs:=ws.drop 1) (λi Z H'=>Same H1 H'/\Ex2 λ(v:V) (v2:Option V)=>Z=[some (.ref l),some v,v2]/\RwAt H' (mostM mrR b (L.take i)) v) ⟨Same.refl _,v0,none,rfl,Fa.mono s1.toT⟩ (λi Z H' _ h=>.of (h.1 _ _ dl)) ?_ ?_
 .rintro i x Z H2 EZ ⟨s2,v,v2,rfl,hv⟩;obtain⟨r,hr,a1,p',rfl,EY,q',ys,EW,Cl,hy⟩:=Fe.get EZ;have hi:i < L.length:=(List.getElem?_eq_some_iff.mp hr).1;have et:L.take (i+1)=L.take i++[r]:=by rw[take_add_one,hr];rfl
  obtain⟨a2,p,rfl,Fc,q,xs,hp,hq,hx⟩:=id hv;have or:=EX r (mem_cons_of_mem _ (mem_of_getElem? hr));have ob:=ld i;fail "r";refine⟨_,_,.inr (.of (s2 _ _ EY)),a0 (j:=1) rfl,_,_,.inr (.of Fc),a0 (j:=1) rfl,?_⟩;refine⟨r.2.1,(mostM mrR b (L.take i)).2.1,ys,xs,p',q',p,q,_,_,rfl,.of (s2 _ _ EW),.of (s2 _ _ Cl),(hy.mono s2.toT).all,.of hp,.of hq,hx.all,or.1,ob.1,λc hc=>(or.2 c hc).1.tx,λc hc=>(ob.2 c hc).1.tx,λH3 s3=>⟨_,rfl,?_⟩⟩;have em:mostM mrR b (L.take (i+1))=if moreM r.2.1 (mostM mrR b (L.take i)).2.1=true then r else mostM mrR b (L.take i):=by rw[et,my];rfl
  refine ite2 (λhm=>?_) (λhm=>?_)
  .refine⟨s2.trans s3,_,_,⟨rfl,rfl⟩,?_⟩;rw[em,if_pos hm];exact⟨a1,p',rfl,(s2.trans s3) _ _ EY,q',ys,(s2.trans s3) _ _ EW,(s2.trans s3) _ _ Cl,hy.mono (s2.trans s3).toT⟩
  .refine⟨s2.trans s3,_,_,⟨rfl,rfl⟩,?_⟩;rw[em,if_neg hm];exact hv.mono s3.toT
 .rintro Z H2 ⟨s2,v,v2,rfl,hv⟩;fail "r";rw[length_drop,show ws.length - 1=L.length by lia,take_length] at hv;exact k v H2 (s1.trans s2) hv
theorem Es:g.D7.Ok P w base 4 (sp_taken_scheme K g.aH):=by
 refine lnF iw ?_;rintro EW A BT s H vs Q E hr ⟨p,t,rfl,dl,hl,k⟩
 nomatch (a9 (sx 1 iw.nd (px K (aZ (K:=K) rfl PySem.F.plainAttrs_str PySem.F.slot_str_partition PySem.F.type_str_partition df (by fail "D") (a8 aO aB)) aV))
   (a9 (aS (PW.pt (bg (by fail "D") (bg (by fail "D") (c9 (aj (aW (ac (pv 0) g.aI g.ax (b9 g) (hr.mono (by decide)) g.aw .nil pass0 (a8 (by fail "D") aB))))))))
    (by fail "D") aT)
   (aD (by fail "D")))),iw.nd,Eb
 have e1:ofString ":"=⟨[58].toArray⟩:=by fail "k"
 rw[e1];fail "r";refine bZ dl g.aI g.bJ ⟨rfl,lF.mpr ⟨by decide,aA (show t.length<=100000 by lia),λq hq=>?_⟩⟩;rw[show (⟨#[58]⟩:Str)=⟨[58].toArray⟩ from rfl,zH];have ld:=aN (o:=.tup [.str ⟨(ahead t).toArray⟩,.str (Txt.partition ⟨t.toArray⟩ ⟨[58].toArray⟩).2.1,.str (Txt.partition ⟨t.toArray⟩ ⟨[58].toArray⟩).2.2]) hq;have Cl:(upd H q (.tup [.str ⟨(ahead t).toArray⟩,.str (Txt.partition ⟨t.toArray⟩ ⟨[58].toArray⟩).2.1,.str (Txt.partition ⟨t.toArray⟩ ⟨[58].toArray⟩).2.2])) q=some (.tup [.str ⟨(ahead t).toArray⟩,.str (Txt.partition ⟨t.toArray⟩ ⟨[58].toArray⟩).2.1,.str (Txt.partition ⟨t.toArray⟩ ⟨[58].toArray⟩).2.2]):=aC;generalize upd H q (.tup [.str ⟨(ahead t).toArray⟩,.str (Txt.partition ⟨t.toArray⟩ ⟨[58].toArray⟩).2.1,.str (Txt.partition ⟨t.toArray⟩ ⟨[58].toArray⟩).2.2])=H1 at ld Cl ⊢;have c1:=dl.same ld;have hal:=zR t;fail "r";refine⟨_,_,.inr (.of Cl),rfl,?_⟩;rw[L2.aF];refine⟨_,rfl,?_⟩;by_cases h1:ahead t=[]
 .rw[decide_eq_true (by rw[h1]),if_pos rfl];obtain⟨z1,z2⟩:=dq (t:=t) (λz=>z.1 h1);have:=k H1 ld.but (by rw[z2];exact c1);rw[z1] at this;exact this
 rw[decide_eq_false (λz=>h1 (bF.mp z)),if_neg (by decide)];refine⟨.str ⟨(ahead t).toArray⟩,_,rfl,.str _,by simp[smallD,Str.length];lia,λH2 s2=>⟨_,rfl,?_⟩⟩;have c2:=c1.same s2;have mt:=ld.trans s2;cases h2:schD (.str ⟨(ahead t).toArray⟩) with
 |false=>rw[if_pos rfl];obtain⟨z1,z2⟩:=dq (t:=t) (λz=>by rw[h2] at z;cases z.2.1);have:=k H2 mt.but (by rw[z2];exact c2);rw[z1] at this;exact this
 |true=>
  rw[if_neg (by decide)];refine aL c2 ?_;rw[show (⟨#[58]⟩:Str)=⟨[58].toArray⟩ from rfl];fail "r";refine⟨aA (by simp;lia),?_⟩;by_cases h3:t[(ahead t).length]?=some 58
  .obtain⟨z1,z2⟩:=lT h1 h2 h3;have ht:=(lS t).mpr h3;refine ay (w:=ahead t++[58]) (r:=t.drop (ahead t++[58]).length) c2 (Nat.zero_le _) (by lia) ?_ λH3 s3 c3 _ _=>⟨_,rfl,?_⟩
   .rw[drop_zero]
    conv=>lhs;rw[<- take_append_drop (ahead t++[58]).length t,ht]
   rw[if_neg (by decide)];have:=k H3 (mt.but.trans s3) (by rw[z2];rw[Nat.zero_add] at c3;exact c3);rw[z1] at this;exact this
  .obtain⟨z1,z2⟩:=dq (t:=t) (λz=>h3 z.2.2);refine j8 (w:=ahead t++[58]) c2 (Nat.zero_le _) (by lia) (by rw[drop_zero];exact λz=>h3 ((lS t).mp z)) ⟨_,rfl,?_⟩;rw[if_pos rfl];have:=k H2 mt.but (by rw[z2];exact c2);rw[z1] at this;exact this
theorem bx:FnOk P w K mg base CX0 4 g.f8 g.cm ["cursor","free","most"] (sp_taken_text K g.aH):=by
 refine lnT (g.bQ.ok rR) ?_;rintro Fp A Fc s H vs Q E hr ⟨p,t,fr,s,w',r,i,mo,rfl,EX,hi,hl,EY,Fo,hd,hw,Ff,Fl,k⟩
 nomatch (a9 (by fail "D")
   (a9 (by fail "D")
   (a9 (cC PassesOwn.never (PW.pt (bf (by fail "D") (bz (aW (ac (pv 0) g.aI g.cr (fQ g) (hr.mono (by decide)) g.ci .nil pass0 (a8 (pv 4) aB))))))
   (aD (bi (aZ (K:=K) rfl PySem.F.plainAttrs_list PySem.F.slot_list_append PySem.F.type_list_append cI (pv 3) (a8 (bh (aW (ac (pv 0) g.aI g.ax (b9 g) (hr.mono (by decide)) g.aw .nil pass0 (a8 aO aB))) (by fail "D") (bT (pv 0) g.aI g.bv (d7 g) (hr.mono (by decide)) g.bt .nil pass0)) aB)))))
   (aD (by fail "D"))))),rR.nd,El,g.aK,g.eM
 have eP:nz=.str ⟨plS.toArray⟩:=by show V.str (ofString _)=_;unfold plS;simp
 rw[eP];fail "r";refine⟨by decide,λq hq=>⟨aA (by rw[lJ];lia),aA (by rw[length_append,lJ];lia),?_⟩⟩;have BT:q≠p:=by obtain⟨dx,hp⟩:=EX;exact (aJ hp hq).symm
 refine cN (λm Z H'=>Ex4 λ(dn s' u w2:Tq)=>m=s'.length/\Z=[some (.ref p),some (.str ⟨fr.toArray⟩),some (moV mo),some (.ref q),some (.str ⟨(plS++fr++[126]).toArray⟩)]/\s=dn++s'/\w'=u++w2/\WrT fr s' w2/\H' q=some (.lst (dn.map one))/\SameBut p H H'/\Cur H' g.aH p t (i+u.length)) s.length ⟨[],s,[],w',rfl,rfl,rfl,rfl,hw,aC,(aN hq).but,?_⟩ ?_
 .obtain⟨dx,hp⟩:=EX;exact⟨dx,by rw[aE BT.symm];exact hp⟩
 rintro m Z H' ⟨dn,s',u,w2,rfl,rfl,es,ew,Fe,ld,sb,dl⟩;have mt:t.drop (i+u.length)=w2++r:=by rw[<- drop_drop,hd,ew,append_assoc,drop_left]
 have Fh:dn.length+s'.length=s.length:=by rw[es,length_append]
 have Fj:i+w'.length<=t.length:=by have:=congrArg List.length hd;rw[length_drop,length_append] at this;lia
 have hk:i+u.length<=t.length:=by rw[ew,length_append] at Fj;lia
 have hsl:=di hw;have EW:(dn.map one).length < sizeLine:=by rw[length_map];exact Nat.lt_of_le_of_lt (show dn.length<=100000 by lia) (by decide)
 have Fi:s'=[]->∃ys:List Str,SqL K H' q (ys.map V.str)/\(ys.map λx=>x.length).sum+ys.length * 0<=16777216/\Q (V.str (Txt.join ⟨#[]⟩ ys)) H':=λe=>by
  subst e;cases Fe;rw[append_nil] at es ew;refine⟨dn.map λc=>⟨[c].toArray⟩,SqL.of (by rw[ld,map_map];rfl),?_,?_⟩
  .rw[kS];simp only[length_map,Nat.mul_zero,Nat.add_zero];lia
  .rw[show (⟨#[]⟩:Str)=⟨([]:Tq).toArray⟩ from rfl,fu,kR];rw[es,ew] at k;exact k H' sb dl
 fail "r";refine BX (A:=s'=[]->Stops fr r) (λFk=>?_) (λz _=>Ff.resolve_right λy=>by rw[y] at z;cases z) (λz EZ=>?_)
 .cases Fe with
  |nil=>
   have hn:∀c,t[i+u.length]?=some c->c∉plS++fr++[126]:=λc hc hin=>by
    have hr:r.head?=some c:=by rw[<- hc,<- List.head?_drop,mt];rfl
    obtain⟨z1,z2,z3⟩:=Fk rfl c hr;have Fg:=EY c (mem_of_getElem? hc);rcases mem_append.mp hin with hin|hin
    .rcases mem_append.mp hin with hin|hin
     .rw[(gM Fg).mp hin] at z1;cases z1
     .exact z2 hin
    .exact z3 (mem_singleton.mp hin)
   have hb:seesB t (plS++fr++[126]) (i+u.length)=false:=by
    cases hc:t[i+u.length]? with
    |none=>exact gN hc
    |some c=>rw[bM hc];exact decide_eq_false (hn c hc)
   refine aL dl ⟨p,t,_,i+u.length,rfl,dl,hk,hl,_,rfl,?_⟩;rw[hb,if_neg (by decide)];exact Fi rfl
  |self hpl hne hw3=>
   rename_i c s3 w3;obtain⟨hx,Fg⟩:=dh (show t.drop (i+u.length)=c::(w3++r) from mt);have hc:=EY c (mem_of_getElem? hx);have hin:c∈plS++fr++[126]:=mem_append.mpr (.inl (mem_append.mpr (hpl.imp (gM hc).mpr id)));refine aL dl ⟨p,t,_,i+u.length,rfl,dl,hk,hl,_,rfl,?_⟩;rw[bM hx,decide_eq_true hin,if_pos rfl];refine⟨_,λ_ _ h=>h,⟨_,.of ld⟩,aL dl ⟨p,t,[126],i+u.length,rfl,dl,hk,hl,λCl=>?_,λ_=>⟨_,rfl,?_⟩⟩⟩
   .rw[mt] at Cl;exact absurd (List.cons.inj Cl).1 hne
   rw[if_neg (by decide)];refine aL dl ⟨p,t,i+u.length,c,rfl,dl,hx,hl,λH1 s1 c1=>⟨_,s1 _ _ BT ld,EW,s3.length,Nat.lt_succ_self _,dn++[c],s3,u++[c],w3,rfl,rfl,by rw[es,append_assoc];rfl,by rw[ew,append_assoc];rfl,hw3,?_,?_,?_⟩⟩
   .rw[aC,map_append];rfl
   .exact (sb.trans s1).upd hq
   .obtain⟨dx,Fa⟩:=c1;rw[length_append,length_singleton,<- Nat.add_assoc];exact⟨dx,by rw[aE BT.symm];exact Fa⟩
  |pair hsg hw3=>
   rename_i c a b s3 w3;obtain⟨hx,Fg⟩:=dh (show t.drop (i+u.length)=126::(a::b::(w3++r)) from mt);have hin:126∈plS++fr++[126]:=mem_append.mpr (.inr (mem_singleton.mpr rfl));refine aL dl ⟨p,t,_,i+u.length,rfl,dl,hk,hl,_,rfl,?_⟩;rw[bM hx,decide_eq_true hin,if_pos rfl];refine⟨_,λ_ _ h=>h,⟨_,.of ld⟩,aL dl ⟨p,t,[126],i+u.length,rfl,dl,hk,hl,λ_ H1 s1 c1=>⟨_,rfl,?_⟩,λCl=>?_⟩⟩
   .rw[if_pos rfl];have Fn:t.drop (i+u.length+1)=a::b::(w3++r):=by rw[<- drop_drop,mt];rfl
    refine⟨p,t,w3++r,i+u.length+1,a,b,c,rfl,c1,Fn,hsg,hl,λH2 s2 c2=>⟨_,(s1.trans s2) _ _ BT ld,EW,s3.length,Nat.lt_succ_self _,dn++[c],s3,u++[126,a,b],w3,rfl,rfl,by rw[es,append_assoc];rfl,by rw[ew,append_assoc];rfl,hw3,?_,?_,?_⟩⟩
    .rw[aC,map_append];rfl
    .exact ((sb.trans s1).trans s2).upd hq
    .obtain⟨dx,Fa⟩:=c2;rw[length_append,show [126,a,b].length=3 from rfl,show i+(u.length+3)=i+u.length+1+2 by lia];exact⟨dx,by rw[aE BT.symm];exact Fa⟩
   .rw[mt] at Cl;exact absurd rfl Cl
 .cases mo with
  |none=>exact absurd rfl z
  |some m=>have hm:=Fl m rfl;refine⟨_,.inl (.of ld),?_⟩;show rI0 (λi j=>V.bl (decide (i < j))) (V.int _) (V.int (m:Int)) H' _;fail "r";refine ite2 (λFb=>EZ λe=>Ff.resolve_right λz=>by have:=Option.some.inj z;rw[length_map] at Fb;rw[e] at Fh;simp at Fh;lia) (λFm=>Fi ?_);rw[length_map] at Fm;exact length_eq_zero_iff.mp (by lia)
theorem Et:g.D8.Ok P w base 4 (sp__law_piece K):=by
 refine lnF rS ?_;rintro EW A ld s H vs Q E hr ⟨c,n,rfl,k⟩
 exists rS.nd,fR,jB,hint 2 0,hint 0 465
 fail "r";have c0:=Int.emod_nonneg c (show (8:Int)≠0 by decide);have c1:=Int.emod_lt_of_pos c (show (0:Int) < 8 by decide);refine⟨by decide,ite2 (λ_=>⟨⟨by decide,by decide⟩,?_⟩) (λh2=>⟨by decide,ite2 (λ_=>⟨⟨by decide,by decide⟩,?_⟩) (λh4=>?_)⟩)⟩
 .exact⟨_,rfl,λl H1 h1 h2 h3 h4 s1=>⟨by decide,λp H2 n2 s2 e2=>k (.step l) p H2 ⟨h1,by lia,h3,h4⟩ rfl (λz=>by cases z) (s1.trans s2) e2⟩⟩
 .refine⟨_,rfl,λhd H1 l1 h1 s1=>⟨⟨by decide,by decide⟩,_,rfl,λtl H2 l2 h2 s2=>?_⟩⟩;refine⟨λZ H3=>Same H H3/\∃hd:Tq,hd.length<=4/\(∀c∈hd,isSg c=true)/\hd++tl≠[]/\Z=[some (.int c),some (tV n),some (tV hd),some (tV tl)],?_,?_⟩
  .fail "r";refine⟨aA (by lia),ite2 (λh0=>?_) (λh0=>⟨s1.trans s2,hd,l1,h1,λz=>h0 (by rw[z]),rfl⟩)⟩;obtain⟨d,dl,BT⟩:=dR (ofString "ab1.").cps.toList (c / 16) 4 (by decide) (by fail "k");have Cl:isSg d=true:=by
    rw[show (ofString "ab1.").cps.toList=[97,98,49,46] by fail "k"] at dl;simp only[mem_cons,not_mem_nil,or_false] at dl;rcases dl with rfl|rfl|rfl|rfl <;> decide
   exact⟨⟨by decide,by decide⟩,by decide,d,by fail "k",BT,s1.trans s2,[d],by simp,λe he=>by rw[mem_singleton.mp he];exact Cl,by simp,rfl⟩
  rintro Z H3 ⟨s3,hd,l1,h1,mt,rfl⟩;fail "r";exact⟨by decide,λp H4 n4 s4 e4=>k (.part hd n tl) p H4 ⟨by lia,by lia,h1,h2,mt⟩ rfl (λ_=>rfl) (s3.trans s4) e4⟩
 .refine⟨by decide,λp H1 n1 s1 e1=>⟨by decide,?_⟩⟩;have h:c % 8 - 4=0\/c % 8 - 4=1\/c % 8 - 4=2\/c % 8 - 4=3:=by lia
  rcases h with h|h|h|h <;> rw[h]
  .exact⟨_,_,.inl (.of e1),a0 (j:=0) rfl,by decide,λp2 H2 n2 s2 e2=>k (.num n) p2 H2 trivial rfl (λ_=>rfl) (s1.trans s2) e2⟩
  .exact⟨_,_,.inl (.of e1),a0 (j:=1) rfl,by decide,λp2 H2 n2 s2 e2=>k (.word n) p2 H2 trivial rfl (λ_=>rfl) (s1.trans s2) e2⟩
  .exact⟨_,_,.inl (.of e1),a0 (j:=2) rfl,by decide,λp2 H2 n2 s2 e2=>k (.gap n) p2 H2 trivial rfl (λ_=>rfl) (s1.trans s2) e2⟩
  .exact⟨_,_,.inl (.of e1),a0 (j:=3) rfl,by decide,λp2 H2 n2 s2 e2=>k (.gap n) p2 H2 trivial rfl (λ_=>rfl) (s1.trans s2) e2⟩
theorem Eu:g.D9.Ok P w base 4 (sp__law_value K):=by
 refine lnF rT ?_;rintro Fi A BT s H vs Q E hr ⟨c,p,i,rfl,hp,Fc,Fa,k⟩
 nomatch (a9 (by fail "D")
   (a9 (aS (by fail "D")
    (aD (aQ (aX jM (by fail "D") (px K (fk (a8 aV (a8 aV (a8 (aX fU aV aV) (a8 (aX fU aV aV) aB))))) (by fail "D"))))) aT)
   (a9 (by fail "D")
   (a9 (aS (by fail "D")
    (aD (aQ (cmp1 ["_law_cell"] [1] (dB rfl g.cg.1 (a8 (by fail "D") aB)) al (aY g.oF (jB g) hr rfl (a8 (aX jL (pv 1) (aX (bW (K:=K)) aV (aX ju aV (pv 0)))) aB))))) aT)
   (aD (by fail "D")))))),rT.nd,jB,fR,hint 2 0,hint 10 0
 have d1:ofString ".."=⟨sUp.toArray⟩:=by fail "k"
 have d2:ofString "."=⟨sStay.toArray⟩:=by fail "k"
 have eA:ofString "a"=⟨[97].toArray⟩:=by fail "k"
 rw[d1,d2,eA];fail "r";refine⟨_,_,.inr (.of hp),c.at0,aF.mpr ⟨_,rfl,?_⟩⟩;rw[ao];refine ite2 (λh2=>⟨⟨by decide,by decide⟩,i / 8,rfl,λl H1 hl EZ s1=>?_⟩) (λh2=>⟨_,_,.inr (.of hp),c.at0,aF.mpr ⟨_,rfl,?_⟩⟩)
 .cases c with
  |part a n t=>
   obtain⟨o1,o2,o3,o4,o5⟩:=Fc;have hv:=s1 _ _ hp;have more:∀{H2:Hp},Same H H2->rAddS K (tV l) (tV [97]) H2 Q:=λ{H2} s2=>by
    refine ae.mpr ⟨aA (by rw[aG,aG];simp only[length_cons,length_nil];lia),?_⟩;rw[aU];refine k (.txt (l++[97])) _ H2 ⟨_,rfl,by simp,λz hz=>?_,by rw[length_append,length_singleton];lia,BC (c:=97) (by simp) (by decide)⟩ (by show (l++[97]).length<=90;rw[length_append,length_singleton];lia) s2 rfl (λq z=>by cases z);rcases mem_append.mp hz with y|y
    .exact EZ z y
    .rw[mem_singleton.mp y];decide
   have ld:decide ((⟨l.toArray⟩:Str)=⟨#[]⟩)=decide (l=[]):=by rw[decide_eq_decide];exact bF
   refine aF.mpr ⟨_,rfl,?_⟩;rw[ld];refine ite2 (λ_=>more s1) (λFf=>⟨_,_,.inr (.of hv),a0 (j:=1) rfl,ae.mpr ⟨aA (by rw[aG,aG];lia),_,_,.inr (.of hv),a0 (j:=3) rfl,?_⟩⟩);rw[aU];refine ae.mpr ⟨aA (by rw[aG,aG,length_append];lia),?_⟩;rw[aU];refine⟨by decide,λp2 H2 n2 s2 e2=>⟨p2,_,rfl,.inr (.of e2),rfl,rfl,_,rfl,?_⟩⟩;show if (if false then _ else inV (sV (a++l++t)) [sV sStay,sV sUp])=true then _ else _;rw[if_neg (show ¬ false=true by decide),l9];refine ite2 (λ_=>more (s1.trans s2)) (λhd=>?_);have Fe:l≠[]:=λz=>Ff (decide_eq_true z);exact k (.txt l) _ H2 ⟨l,rfl,Fe,EZ,by lia,(Bool.not_eq_true _).mp hd⟩ (by show l.length<=90;lia) (s1.trans s2) rfl (λq z=>by cases z)
  |_=>cases h2
 rw[bH];refine ite2 (λh3=>?_) (λh3=>⟨_,_,.inr (.of hp),c.at0,aF.mpr ⟨_,rfl,?_⟩⟩)
 .refine⟨⟨by decide,by decide⟩,⟨by decide,by decide,by decide⟩,⟨by decide,by decide,by decide⟩,by decide,λp2 H2 n2 s2 Fb=>⟨by decide,?_⟩⟩;obtain⟨j,hj,ej⟩:∃j:Nat,j < 4/\i % 4=(j:Int):=⟨(i % 4).toNat,by lia,by lia⟩;obtain⟨m,hm,EY,EX⟩:∃m:Int,[V.int 10,V.int 100,V.int (10 ^ Int.toNat 9),V.int (10 ^ Int.toNat 60)][j]?=some (.int m)/\0 < m/\m<=10 ^ 60:=by
   match j,hj with
   |0,_=>exact⟨_,rfl,by decide,by fail "k"⟩
   |1,_=>exact⟨_,rfl,by decide,by fail "k"⟩
   |2,_=>exact⟨_,rfl,by decide,by fail "k"⟩
   |3,_=>exact⟨_,rfl,by fail "k",by fail "k"⟩
  have m1:=Int.emod_nonneg (i / 8) (show m≠0 by lia);have m2:=Int.emod_lt_of_pos (i / 8) EY;refine⟨_,_,.inl (.of Fb),by rw[ej];exact a0 hm,rd_I.mpr ⟨EY,?_⟩⟩;cases c with
  |num nm=>exact k (.int (i / 8 % m)) _ H2 ⟨_,rfl,m1,by lia⟩ trivial s2 rfl (λq z=>by cases z)
  |_=>cases h3
 rw[dw];refine ite2 (λh4=>?_) (λh4=>⟨_,_,.inr (.of hp),c.at0,aF.mpr ⟨_,rfl,?_⟩⟩)
 .obtain⟨d,hd,Fg⟩:=dR (ofString "abcxyz").cps.toList (i / 8) 6 (by decide) (by fail "k");rw[show (ofString "abcxyz").cps.toList=[97,98,99,120,121,122] by fail "k"] at hd;have Fh:isSma d=true:=by
   simp only[mem_cons,not_mem_nil,or_false] at hd;rcases hd with rfl|rfl|rfl|rfl|rfl|rfl <;> decide
  obtain⟨m,hm,EX,EW⟩:∃m:Nat,1+i / 48 % 60=(m:Int)/\1<=m/\m<=60:=⟨(1+i / 48 % 60).toNat,by lia,by lia,by lia⟩;rw[hm];refine⟨⟨by decide,by decide⟩,by decide,d,by fail "k",Fg,⟨by decide,by decide⟩,by decide,AI d m EW,?_⟩;rw[AH d m];cases c with
  |word nm=>exact k (.txt (List.replicate m d)) _ H ⟨_,rfl,all_eq_true.mpr λx hx=>by rw[List.eq_of_mem_replicate hx];exact Fh,by rw[length_replicate];lia,by rw[length_replicate];lia⟩ (by show (List.replicate m d).length<=90;rw[length_replicate];lia) (Same.refl _) rfl (λq z=>by cases z)
  |_=>cases h4
 rw[bc];refine ite2 (λh5=>?_) (λh5=>⟨⟨by decide,by decide⟩,i / 8,rfl,λs H2 a1 a2 a3 a4 s2=>?_⟩)
 .obtain⟨m,hm,EX,EW⟩:∃m:Nat,1+i / 3 % 5=(m:Int)/\1<=m/\m<=5:=⟨(1+i / 3 % 5).toNat,by lia,by lia,by lia⟩;rw[hm,Int.toNat_natCast];refine⟨⟨by decide,by decide⟩,by decide,by lia,by lia,λl nl=>?_⟩;refine A8 (λj ys H'=>Same H H'/\∃ss:List Tq,ys=ss.map tV/\ss.length=j/\∀s∈ss,SgT s/\s.length<=90/\isDot s=false) (aA (by lia)) ⟨aN nl,[],rfl,rfl,(λs hs=>by cases hs)⟩ (λj ys H2 T hj hJ mt hT=>?_) (λys H2 hJ mt=>?_)
  .obtain⟨s2,ss,rfl,Cl,dl⟩:=hJ;fail "r";refine⟨.inl ⟨by decide,by decide⟩,⟨by lia,by lia⟩,_,rfl,λs H3 a1 a2 a3 a4 s3=>hT (tV s) H3 (s3 _ _ mt) ⟨gu (s2.trans s3) nl,ss++[s],by rw[map_append];rfl,by rw[length_append,Cl];rfl,λz hz=>?_⟩⟩;rcases mem_append.mp hz with y|y
   .exact dl z y
   .rw[mem_singleton.mp y];exact⟨⟨length_pos_iff.mp a1,a3⟩,by lia,a4⟩
  .obtain⟨s2,ss,rfl,Cl,dl⟩:=hJ;cases c with
   |rest nm=>exact k (.lst ss) _ H2 ⟨ss,rfl,length_pos_iff.mp (by lia),by lia,λs hs=>⟨(dl s hs).1,by have:=(dl s hs).2.1;lia,(dl s hs).2.2⟩⟩ ⟨by lia,λs hs=>(dl s hs).2.1⟩ s2 ⟨l,rfl,mt⟩ (λq z=>by cases z;exact nl)
   |_=>cases h5
 .cases c with
  |step w=>cases Fa
  |part a n t=>exact absurd rfl h2
  |num n=>exact absurd rfl h3
  |word n=>exact absurd rfl h4
  |rest n=>exact absurd rfl h5
  |gap n=>exact k (.txt s) _ H2 ⟨s,rfl,⟨length_pos_iff.mp a1,a3⟩,by lia,a4⟩ (by show s.length<=90;lia) s2 rfl (λq z=>by cases z)
theorem Ev:g.Da.Ok P w base 4 (sp__law_pattern_text K):=by
 refine lnF ix ?_;rintro EZ A mt s H vs Q E hr ⟨cs,e,p,q,r,xs,is,rfl,hp,hq,hA,hl,ok,Cl,EX,k⟩
 nomatch (a9 (sx 2 ix.nd (aX (bW (K:=K)) aO (aZ (K:=K) rfl PySem.F.plainAttrs_str PySem.F.slot_str_join PySem.F.type_str_join (dM (K:=K) rfl) aO (a8 (cmp1 ["_law_cells"] [1] (bE (K:=K) rfl (by fail "D")) al (aY g.oG (Em g) hr rfl (a8 (pv 0) (a8 (pv 1) aB)))) aB))))
   (a9 (by fail "D")
   (aD (by fail "D")))),ix.nd,hint 2 0,hint 7 0
 have b1:ofString "/"=⟨[47].toArray⟩:=by fail "k"
 rw[b1];fail "r";have EY:=hA.length;refine⟨_,_,.inr (.of hp),a0 (j:=0) rfl,q,rfl,⟨xs,.of hq⟩,λpl nl=>?_⟩;refine gT (xs:=xs) (λi ys H1=>Same H H1/\∃ws:List Tq,ys=ws.map tV/\PcWs (cs.take i) ws/\(∀w∈ws,w.length<=700)/\(is=[]->ws=(cs.take i).map pcT)) (aA (by lia)) ⟨aN nl,[],rfl,.nil,(λw hw=>nomatch hw),λ_=>rfl⟩ (λi ys H1 h=>.of (h.1 _ _ hq)) (λi x ys H1 T hx ⟨s1,ws,ey,hw,dl,h0⟩ ld hT=>?_) (λys H1 ⟨s1,ws,ey,hw,dl,h0⟩ ld=>?_)
 .obtain⟨c,pc,hc,rfl,EW⟩:=hA.get hx;obtain⟨o1,o2⟩:=ok c (mem_of_getElem? hc);have et:cs.take (i+1)=cs.take i++[c]:=by rw[take_add_one,hc];rfl
  fail "r";refine⟨c,pc,r,is,rfl,s1 _ _ EW,o1,o2,s1 _ _ Cl,EX,λw H2 w1 w2 w3 s2=>hT _ _ (s2 _ _ ld) ?_⟩;refine⟨λb o e=>by rw[aE (aJ e nl)];exact (s1.trans s2) b o e,ws++[w],by rw[ey,map_append];rfl,by rw[et];exact hw.snoc w1,λx hx=>?_,λz=>by rw[et,map_append,h0 z,w3 z];rfl⟩;rcases mem_append.mp hx with y|y
  .exact dl x y
  .rw[mem_singleton.mp y];exact w2
 .rw[EY,take_length] at hw h0;have BT:=hw.length;obtain⟨j1,j2⟩:=nR 47 700 dl;rw[BT] at j1 j2;subst ey;refine⟨_,pl,ws.map mkS,rfl,rfl,?_,?_,?_⟩
  .rw[map_map];exact .of ld
  .rw[map_map,length_map,BT];have e:((λx=>x.length) ∘ mkS)=(λx:Tq=>x.length):=funext λx=>aG x;show (List.map ((λx:Str=>x.length) ∘ mkS) ws).sum+cs.length * 1<=_;rw[show ((λx:Str=>x.length) ∘ mkS)=(λx:Tq=>x.length) from funext λx=>aG x];lia
  rw[gF];have e1:(⟨#[47]⟩:Str)++⟨(joinT 47 ws).toArray⟩=⟨(47::joinT 47 ws).toArray⟩:=aU (l:=[47]) (m:=joinT 47 ws);refine ae.mpr ⟨aA (by rw[show (⟨(joinT 47 ws).toArray⟩:Str).length=_ from aG _];show 1+_<=_;lia),?_⟩;rw[e1];refine⟨_,_,.inr (.of (s1 _ _ hp)),a0 (j:=1) rfl,e,rfl,?_⟩;have eE:slT true ws e=47::(joinT 47 ws++if e && !ws.isEmpty then [47] else []):=rfl;refine ite2 (λhe=>⟨_,_,.inr (.of (s1 _ _ hp)),a0 (j:=0) rfl,by decide,λp2 H2 n2 s2 e2=>?_⟩) (λhe=>?_)
  .have u2:=s1.trans s2;refine⟨.tuple (cs.map pcD),.tuple [],.tup (u2 _ _ hq) (hA.mono u2.toT).isT.is,.tup e2 .nil,(m9 λc hc=>BR (ok c hc).1 (ok c hc).2).shaped (by decide),by fail "k",_,rfl,?_⟩;rw[yJ,isEmpty_map];have ei:ws.isEmpty=cs.isEmpty:=by cases hw <;> rfl
   refine ite2 (λhz=>?_) (λhz=>?_)
   .refine ae.mpr ⟨aA (by rw[show (⟨(47::joinT 47 ws).toArray⟩:Str).length=_ from aG _,length_cons];show _+1<=_;lia),?_⟩;have:=k ws H2 hw dl h0 u2;rw[eE,he,ei,hz,if_pos (by decide)] at this;rw[show (⟨(47::joinT 47 ws).toArray⟩:Str)++⟨#[47]⟩=⟨((47::joinT 47 ws)++[47]).toArray⟩ from aU (47::joinT 47 ws) [47]];exact this
   .have:=k ws H2 hw dl h0 u2;rw[eE,he,ei,show (!cs.isEmpty)=false from (Bool.not_eq_true _).mp hz,if_neg (by decide),append_nil] at this;exact this
  .have:=k ws H1 hw dl h0 s1;rw[eE,(Bool.not_eq_true _).mp he,if_neg (by rw[Bool.false_and];decide),append_nil] at this;exact this
theorem Ew:g.Db.Ok P w base 5 (sp_show K):=by
 refine lnF rV ?_;rintro BT A ld s H vs Q E hr ⟨x,v,rfl,hI,wf,sz,k⟩
 exists rV.nd,Ec,Ed,En,Ef,rm,g.oY,g.oX,g.ia,g.oZ,g.oa,g.iZ,hint 0 107
 obtain⟨p,w,q,rfl,hp,mt,i4⟩:=yd hI;obtain⟨pw,ps,rfl,hw,hs⟩:=yc mt;have dl:=sz.all;rw[Ad.shw] at dl;simp only[length_append] at dl;have c1:ofString ":"=⟨[58].toArray⟩:=by fail "k"
 rw[c1];fail "r";refine⟨λZ H'=>H'=H/\Z=[some (.ref p),some (.str ⟨(schT x.scheme).toArray⟩)],?_,?_⟩
 .refine⟨p,x.scheme,_,rfl,hp,_,rfl,?_⟩;by_cases hh:x.scheme=[]
  .refine ite2 (λz=>absurd hh (by simpa using z)) (λ_=>⟨rfl,?_⟩);rw[hh];rfl
  .refine ite2 (λ_=>?_) (λz=>absurd hh (by simpa using z));have e:schT x.scheme=x.scheme++[58]:=by simp[schT,hh]
   refine⟨_,_,.inr hp,rfl,?_⟩;rw[show (⟨#[58]⟩:Str)=⟨[58].toArray⟩ from rfl];fail "r";rw[e,length_append] at dl;refine⟨aA (by simp at dl ⊢;lia),?_⟩;rw[e]
 rintro Z H' ⟨rfl,rfl⟩;fail "r";refine⟨_,_,.inr hp,rfl,_,_,.inr hp,rfl,x.house,x.door,rfl,λl e=>⟨(wf.hou l e).1.2,(wf.hou l e).2⟩,wf.doo,λH1 s1=>?_⟩;fail "r";refine⟨aA (by simp;lia),_,_,.inr (s1.tup hp),rfl,x.rooted,x.ends,x.steps,pw,ps,rfl,s1.tup hw,s1.tup hs,λs h=>⟨sz.stp s h,(wf.stp s h).2⟩,sz.num,by show x.wayT.length<=90000;lia,λH2 s2=>?_⟩;fail "r";refine⟨aA (by show _+x.wayT.length<=_;simp;lia),_,_,.inr ((s1.trans s2).tup hp),rfl,x.quest,q,rfl,i4.mono (s1.trans s2),λps e=>⟨(sz.que ps e).1,λq hq=>⟨wf.que ps e q hq,(sz.que ps e).2 q hq⟩⟩,by lia,λH3 s3=>?_⟩;fail "r";refine⟨aA (by show _+(queT x.quest).length<=_;simp[Ad.wayT] at dl ⊢;lia),_,_,.inr (((s1.trans s2).trans s3).tup hp),rfl,x.mark,rfl,λl e=>⟨sz.mar l e,wf.mar l e⟩,λH4 s4=>?_⟩;fail "r";refine⟨aA (by simp[Ad.wayT] at dl ⊢;lia),?_⟩;have:=k H4 (((s1.trans s2).trans s3).trans s4);rw[Ad.shw] at this;simpa [Ad.wayT] using this
theorem Ex:g.Dc.Ok P w base 5 (sp_are_pieces K):=by
 refine lnF rW ?_;rintro EW A dl s H vs Q E hr ⟨cs,e,xs,q,rfl,hq,hx,⟨ok,hn,nd,hl,_⟩,k⟩
 nomatch (a9 (aS (PW.pt (bg (by fail "D") (c9 (aj (aW (bj (bn (K:=K) rfl rfl) rfl g.bq.1 PyProof.Rows.boot_all (a8 (cmp1 [] [] (bE (K:=K) rfl (pv 0)) al (aY g.oH (Eo g) hr rfl (a8 (pv 0) aB))) aB)))))))
    (by fail "D") aT)
   (aD (by fail "D"))),rW.nd,Eh,DQ,g.aK,g.on
 fail "r";obtain⟨ld,BT⟩:=iL hx;rw[length_map] at ld;refine⟨_,.inr (.of hq),ite2 (λh=>absurd h (by lia)) (λh=>⟨⟨_,.of hq⟩,λp1 n1=>?_⟩)⟩;refine gT (xs:=xs) (λi ys H'=>Same H H'/\ys=(List.replicate i true).map V.bl) (aA (by lia)) ⟨aN n1,rfl⟩ (λi ys H2 hJ=>.of (hJ.1 _ _ hq)) (λi x ys H2 T mt hJ h2 hT=>?_) (λys H2 hJ h2=>?_)
 .obtain⟨s2,rfl⟩:=hJ;obtain⟨d,hd,Cl⟩:=BT i x mt;rw[List.getElem?_map] at hd;obtain⟨c,hc,rfl⟩:=Option.map_eq_some_iff.mp hd;have hc:=mem_of_getElem? hc;fail "r";refine⟨c,x,rfl,Cl.mono s2.toT,ok.1 c hc,hn c hc,λH3 s3=>hT _ H3 (s3 _ _ h2) ⟨bL n1 (s2.trans s3),?_⟩⟩;rw[List.replicate_succ',map_append];rfl
 .obtain⟨s2,rfl⟩:=hJ;fail "r";refine⟨_,.of h2,?_⟩;rw[show (List.replicate xs.length true).all id=true by simp];refine ite2 (λz=>by cases z) (λ_=>⟨cs,xs,q,rfl,s2 _ _ hq,iM (hx.mono s2.toT),by lia,λH3 s3=>⟨_,rfl,?_⟩⟩);rw[BS ok];refine ite2 (λ_=>⟨cs,xs,q,rfl,(s2.trans s3) _ _ hq,iM (hx.mono (s2.trans s3).toT),by lia,λH4 s4=>?_⟩) (λz=>absurd rfl z);rw[decide_eq_true nd];exact k H4 ((s2.trans s3).trans s4)
theorem Ey:g.Dd.Ok P w base 5 (sp_read_gap K):=by
 refine lnF iy ?_;rintro mt A ld s H vs Q E hr ⟨c,a,i,b,rfl,hg,l1,l2,l3,k⟩
 nomatch (a9 (aS (by fail "D")
    (aD (aQ (cP (a8 aO (a8 (ag (jC g) (hr.mono (by decide)) rfl g.f6 g.ck.kp g.f7 .nil pass0 (a8 (pv 0) (a8 (by fail "D") aB))) (a8 (pv 1) (a8 (ag (jC g) (hr.mono (by decide)) rfl g.f6 g.ck.kp g.f7 .nil pass0 (a8 (pv 2) (a8 (by fail "D") aB))) aB))))))) aT)
   (a9 (sx 3 iy.nd (aZ (K:=K) rfl PySem.F.plainAttrs_str PySem.F.slot_str_partition PySem.F.type_str_partition df (pv 1) (a8 aO aB)))
   (a9 (by fail "D")
   (aD (aQ (bh (dF (gH (K:=K) rfl) (by fail "D") (dA (v:=.ref g.fD) rfl g.pV rfl) (by with_unfolding_all rfl)) (by fail "D") d8)))))),iy.nd,hint 2 0,g.eO
 have b3:ofString ":"=⟨[58].toArray⟩:=by fail "k"
 have eF:eK=.str ⟨frS.toArray⟩:=congrArg V.str (cZ _).symm;rw[b3,eF];fail "r";cases hg with
 |@part h n t a b w1 w2 w3=>
  have P:a.length<=2000/\(∀(c:Nat),c∈a->c < 128)/\∀H',Same H H'->b.length<=2000/\(∀(c:Nat),c∈b->c < 128)/\∀H2,Same H' H2->4<=sizeLine/\∀p H',H2 p=none->Same H2 H'->H' p=some (.tup [V.str (ofString "part"),undV (und frS a),tV i,undV (und frS b)])->Q (V.ref p) H':=
   ⟨l1,iJ w1,λH1 s1=>⟨l3,iJ w2,λH2 s2=>⟨by decide,λp H3 n s3 e3=>k _ _ (s1.trans (s2.trans s3)) (by rw[iI w1,iI w2] at e3;exact .tup e3 (.cons (.str _) (.cons (.str _) (.cons (.str _) (.cons (.str _) .nil)))))⟩⟩⟩
  refine ite2 (λ_=>P) (λh1=>ite2 (λ_=>P) (λh2=>absurd ?_ w3));have e1:=di w1;have e2:=di w2;rw[bF.mp (Decidable.not_not.mp h1),length_nil] at e1;rw[bF.mp (Decidable.not_not.mp h2),length_nil] at e2;rw[length_eq_zero_iff.mp (show h.length=0 by lia),length_eq_zero_iff.mp (show t.length=0 by lia)];rfl
 |gap h1=>refine ite2 (λz=>absurd rfl z) (λ_=>ite2 (λz=>absurd rfl z) (λ_=>⟨by decide,aA (by lia),λp hp=>?_⟩));rw[show Txt.partition ⟨i.toArray⟩ ⟨#[58]⟩=_ from nJ h1];refine⟨_,_,.inr (.of aC),a0 (j:=1) rfl,aF.mpr ⟨_,rfl,ite2 (λ_=>⟨by decide,λp2 H2 n2 s2 e2=>k _ _ ((aN hp).trans s2) (.tup e2 (.cons (.str _) (.cons (.str _) .nil)))⟩) (λz=>absurd (decide_eq_true rfl) z)⟩⟩
 |@kw c n kk h1 h2 h3 h4=>refine ite2 (λz=>absurd rfl z) (λ_=>ite2 (λz=>absurd rfl z) (λ_=>⟨by decide,aA (by lia),λp hp=>?_⟩));rw[show Txt.partition ⟨(n++58::kk).toArray⟩ ⟨#[58]⟩=_ from iF h1];refine⟨_,_,.inr (.of aC),a0 (j:=1) rfl,aF.mpr ⟨_,rfl,ite2 (λz=>absurd (of_decide_eq_true z) (show (⟨#[58]⟩:Str)≠⟨#[]⟩ by decide)) (λ_=>?_)⟩⟩;generalize hH:upd H p _=H1;have s1:Same H H1:=hH▸aN hp;have dl:SqT K H1 p [.str (mkS n),.str (mkS [58]),.str (mkS kk)]:=hH▸.of aC;refine⟨_,_,.inr dl,a0 (j:=2) rfl,_,kwW.map V.str,rfl,.inr (nL (ss:=kwW) (g.pW H1)),rfl,rfl,_,rfl,?_⟩;rw[if_neg (show ¬ false=true by decide),iG];refine ite2 (λz=>⟨_,_,.inr dl,a0 (j:=2) rfl,_,_,.inr dl,a0 (j:=0) rfl,by decide,λp2 H2 n2 s2 e2=>k _ _ (s1.trans s2) (by rw[h4,h2];exact .tup e2 (.cons (.str _) (.cons (.str _) .nil)))⟩) (λz=>absurd (decide_eq_true (h2▸h3)) z)
theorem sE:g.De.Ok P w base 5 (sp_bound K):=by
 refine lnF rX ?_;rintro Fg A mt s H vs Q E hr ⟨cs,xs,p,q,pw,ps,cl,r,e,ss,rfl,hp,hq,hx,hn,hz,hw,EW,Fb,BT,k0,k⟩
 exists rX.nd,j6,E6,j7,sD,g.bP,g.eQ,hint 3 0,hint 2 0
 fail "r";refine⟨cs,xs,p,q,pw,ps,cl,r,e,ss,rfl,hp,hq,hx,hn,hz,hw,.of EW,Fb,BT,λH1 s1=>⟨_,rfl,?_⟩⟩;cases hf:fitsP cs cl r ss e with
 |false=>exact ite2 (λ_=>k0 hf H1 s1) (λz=>absurd rfl z)
 |true=>
  refine ite2 (λz=>by cases z) (λ_=>⟨by decide,λl H2 n2 s2 e2=>?_⟩);have ld:=s1.trans s2;have hl:=hx.length;refine⟨_,_,.inr (ld.tup hp),a0 (j:=0) rfl,q,xs,rfl,.of (ld _ _ hq),?_⟩;have nl:H l=none:=by
   cases hh:H l with
   |none=>rfl
   |some o=>rw[s1 _ _ hh] at n2;cases n2
  refine zv (λi Z H'=>Ex3 λ(ys:List V) (v3 v4:Option V)=>Z=[some (.ref p),some (.ref pw),some (.ref l),v3,v4]/\H' l=some (.lst ys)/\BndV H' l (boundM (cs.take i) ss) ys/\Same H H'/\FrB H H' ys) ⟨[],none,none,rfl,e2,.nil,ld,λv hv=>by cases hv⟩ (λi Z H' _ h=>by obtain⟨_,_,_,_,_,_,hh,_⟩:=h;exact .of (hh _ _ hq)) ?_ ?_
  .rintro i v Z H3 T hv ⟨ys,v3,v4,rfl,e3,hb,s3,hF⟩ hT;obtain⟨c,pc,hc,rfl,Fc⟩:=hx.get hv;have st:Same H3 (upd H3 T (.tup [.int (i:Int),.ref pc])):=aN hT;have dl:=(s3.trans st).tup Fc;have et:=lw cs ss i c hc;obtain⟨s,hs,Fe⟩:=dy hf hc;fail "r";refine⟨T,_,rfl,.of aC,rfl,_,_,rfl,_,_,rfl,rfl,?_⟩;fail "r";refine⟨c,pc,rfl,dl,_,rfl,?_⟩;have hbl:=hb.length;have Ff:=lu (cs.take i) ss;rw[length_take] at Ff;cases hcs:c.isStep with
   |true=>refine ite2 (λz=>by cases z) (λ_=>?_);rw[hcs,if_pos rfl,append_nil] at et;exact⟨ys,_,_,⟨rfl,rfl⟩,st _ _ e3,by rw[et];exact hb.mono st,s3.trans st,hF.mono st.toT⟩
   |false=>
    refine ite2 (λ_=>?_) (λz=>absurd rfl z);rw[hcs,if_neg (by decide)] at et;have sT:=s3.trans st;have Cl:ss.drop i=s::ss.drop (i+1):=by have hi:=(List.getElem?_eq_some_iff.mp hs);rw[drop_eq_getElem_cons hi.1,hi.2]
    obtain⟨z1,z2⟩:=hz c (mem_of_getElem? hc);refine⟨⟨_,.of (st _ _ e3)⟩,c,pc,rfl,dl,hcs,_,_,.inr (sT.tup hw),a0 (j:=1) rfl,ps,_,rfl,sT _ _ EW,λp4 H4 s4 e4=>?_⟩;rw[cV,<- map_drop,Cl] at e4;refine⟨c,s,ss.drop (i+1),pc,p4,rfl,s4.tup dl,e4,Fe,BT s (mem_of_getElem? hs),z1,z2,by rw[length_drop];lia,λv H5 s5 Fa EX=>⟨by decide,λp6 H6 n6 s6 e6=>?_⟩⟩;have EY:=(st.trans (s4.trans (s5.trans s6))) _ _ e3;have EZ:∀q,v=.ref q->q≠l:=λq z w=>by have:=EX q z;rw[w,s4 _ _ (st _ _ e3)] at this;cases this
    refine⟨_,EY,Nat.lt_of_le_of_lt (show ys.length<=100 by lia) (by decide),ys++[.ref p6],_,_,⟨rfl,rfl⟩,by rw[aC],?_,bL nl (sT.trans (s4.trans (s5.trans s6))),((hF.mono (st.trans (s4.trans (s5.trans s6))).toT).snoc e6 λq z=>eC (sT.trans s4) (EX q z)).mono (bD EY)⟩;rw[et,Cl];exact ((hb.mono (st.trans (s4.trans (s5.trans s6)))).snoc e6 (Fa.mono s6) EZ).upd EY
  .rintro Z H3 ⟨ys,v3,v4,rfl,e3,hb,s3,hF⟩;rw[hl,take_length] at hb;fail "r";exact k hf l ys H3 nl hF s3 e3 hb
theorem Ez:g.Df.Ok P w base 5 (sp_is_value K):=by
 refine lnF rY ?_;rintro EY A BT s H vs Q E hr ⟨c,p,d,v,rfl,hp,hc,hh,ht,hv,hs,dl,k⟩
 nomatch (a9 (aS (by fail "D")
    (aD (aQ (bB (by fail "D") (bB (by fail "D") (bR (bj (bn (K:=K) rfl rfl) rfl g.bq.1 PyProof.Rows.boot_all (a8 (cmp1 [] [] (cM (K:=K) rfl (pv 1)) al (aY g.oJ (Ep g) hr rfl (a8 (pv 0) aB))) aB))))))) aT)
   (a9 (aS (by fail "D")
    (aD (aQ (bB (by fail "D") (bR (jT jS jR aV (pv 1) (aX fU aV aV)))))) aT)
   (a9 (by fail "D")
   (aD (by fail "D"))))),rY.nd,cy,cz,fO,jA,sB,DO,hint 2 0,g.b8,g.au,g.aK,g.ii
 fail "r";refine⟨_,_,.inr hp,c.at0,aF.mpr ⟨_,rfl,?_⟩⟩;rw[bc];refine ite2 (λld=>?_) (λld=>⟨_,_,.inr hp,c.at0,aF.mpr ⟨_,rfl,?_⟩⟩)
 .cases c with
  |rest n=>
   cases hv with
   |@lst a xs ds hl r=>
    have EX:=r.length;have Cl:ds.length<=100000/\smallAll ds=true:=by simpa [smallD] using hs
    have e:(decide (0 < ds.length) && ds.all canD)=true:=dl;rw[Bool.and_eq_true,decide_eq_true_iff] at e;refine⟨"list",dO hl,ite2 (λ_=>fb.mpr ⟨xs,.inl (.of hl),dJ.mpr ⟨_,rfl,ite2 (λ_=>⟨_,rfl,⟨_,.of hl⟩,λp0 n0=>?_⟩) (λz=>absurd (decide_eq_true (by lia)) z)⟩⟩) (λz=>absurd (by decide) z)⟩;refine xN (zs:=(ds.map canD).map V.bl) (.of hl) (aA (by lia)) n0 (by rw[length_map,length_map,EX]) (λi x z hx hz H1 T s1 hT=>?_) (λH1 s1 EW=>?_)
    .obtain⟨d,hd,hI⟩:=r.at i x hx;rw[List.getElem?_map,List.getElem?_map,hd] at hz;cases hz;fail "r";exact⟨d,x,rfl,hI.mono s1,kU Cl.2 (mem_of_getElem? hd),λH2 s2=>hT H2 s2⟩
    .refine fj.mpr ⟨ds.map canD,.of EW,?_⟩;rw[all_map,show ds.all (id ∘ canD)=true from e.2];exact k H1 s1
   |_=>cases dl
  |_=>cases ld
 rw[bH];refine ite2 (λmt=>?_) (λmt=>⟨_,_,.inr hp,c.at0,aF.mpr ⟨_,rfl,?_⟩⟩)
 .cases c with
  |num n=>
   refine⟨d,v,rfl,hv,_,rfl,?_⟩;cases hv with
   |int i=>have h0:0<=i/\i < 10 ^ 60:=of_decide_eq_true dl;refine ite2 (λ_=>dJ.mpr ⟨_,rfl,ite2 (λ_=>⟨⟨by decide,by decide,by decide⟩,dJ.mpr ?_⟩) (λz=>absurd (decide_eq_true h0.1) z)⟩) (λz=>absurd rfl z);rw[decide_eq_true (show i < 10 ^ Int.toNat 60 from h0.2)];exact k H (Same.refl _)
   |_=>cases dl
  |_=>cases mt
 rw[dw];refine ite2 (λhw=>?_) (λhw=>?_)
 .cases c with
  |word n=>
   cases hv with
   |str x=>exact⟨"str",rfl,ite2 (λ_=>⟨x.cps.toList,rfl,bp hs,λH1 s1=>by rw[show wordB x.cps.toList=true from dl];exact k H1 s1⟩) (λz=>absurd (by decide) z)⟩
   |_=>cases dl
  |_=>cases hw
 .have e:(ftx d && !isDot (c.head++txD d++c.tail))=true:=by
   cases c with
   |part a b e=>exact dl
   |gap n=>rw[<- dl];show (ftx d && !isDot ([]++txD d++[]))=(ftx d && !isDot (txD d));rw[nil_append,append_nil]
   |step s=>cases hc
   |num n=>exact absurd rfl mt
   |word n=>exact absurd rfl hw
   |rest n=>exact absurd rfl ld
  rw[Bool.and_eq_true] at e;cases hv with
  |str x=>
   obtain⟨⟨l⟩⟩:=x;have hl:l.length<=100000:=bp hs;have b3:300000<=sizeLine:=by decide
   refine⟨_,_,rfl,.str _,hs,λH1 s1=>⟨_,rfl,ite2 (λ_=>⟨c,p,rfl,s1.tup hp,ae.mpr ⟨Nat.le_trans (show c.head.length+l.length<=300000 by lia) b3,c,p,rfl,s1.tup hp,ae.mpr ⟨?_,?_⟩⟩⟩) (λz=>absurd e.1 z)⟩⟩
   .show ((⟨c.head.toArray⟩:Str)++⟨l.toArray⟩).length+c.tail.length<=_;rw[aU,aG,length_append];lia
   .show sp_is_dot [V.str ((⟨c.head.toArray⟩:Str)++⟨l.toArray⟩++⟨c.tail.toArray⟩)] H1 _ E0;rw[aU,aU];exact⟨_,rfl,_,rfl,by rw[show (!isDot (c.head++l++c.tail))=true from e.2];exact k H1 s1⟩
  |_=>cases e.1
theorem EA:g.Dg.Ok P w base 5 (sp_taken_way K g.aH):=by
 refine lnF bw ?_;rintro Fw A Fm s H vs Q E hr ⟨p,t,v,rest,i,dl,r,ss,e,rfl,ld,hi,hl,mt,hd,hw,he,Ft,EX,Fo,k⟩
 nomatch (aP (sx 2 bw.nd (ac (pv 0) g.aI g.ax (b9 g) (hr.mono (by decide)) g.aw .nil pass0 (a8 aO aB)))
   (aP (by fail "D")
   (a9 (by fail "D")
   (a9 (by fail "D")
   (aP (sx 5 bw.nd (ag (dvs:=[.non]) (bx g) (hr.mono (by decide)) rfl g.bd g.bQ.kp g.bu (.cons rfl .nil) pass0 (a8 (pv 0) (a8 (by fail "D") aB))))
   (a9 (cC PassesOwn.never (by fail "D")
   (a9 (by fail "D")
   (a9 (sx 4 bw.nd (ac (pv 0) g.aI g.ax (b9 g) (hr.mono (by decide)) g.aw .nil pass0 (a8 aO aB)))
   (aD (sx 5 bw.nd (ag (dvs:=[.non]) (bx g) (hr.mono (by decide)) rfl g.bd g.bQ.kp g.bu (.cons rfl .nil) pass0 (a8 (pv 0) (a8 (by fail "D") aB))))))))
   (aD (by fail "D")))))))),bw.nd,hint 2 0,g.av,g.eO
 have eF:eK=.str ⟨frS.toArray⟩:=by show V.str (ofString _)=_;unfold frS;simp
 have e1:ofString "/"=⟨[47].toArray⟩:=by fail "k"
 rw[eF,e1];fail "r";refine⟨λZ H1=>SameBut p H H1/\∃j,Z=[some (.ref p),some (.bl dl),some (.bl r),none,none,none]/\Cur H1 g.aH p t j/\j<=t.length/\t.drop j=v++rest,?_,?_⟩
 .cases r with
  |true=>exact aL ld (ay (w:=[47]) ld hi hl hd λH1 s1 c1 Fu Fv=>⟨s1,_,rfl,c1,Fu,Fv⟩)
  |false=>exact aL ld (be ld hi hl (show t.drop i=v++rest from hd) (lM hw Fo) ⟨SameBut.refl _ _,i,rfl,ld,hi,hd⟩)
 rintro Z H1 ⟨s1,j,rfl,c1,hj,Cl⟩;fail "r";refine⟨λZ H2=>H2=H1/\Z=[some (.ref p),some (.bl dl),some (.bl r),none,none,none],?_,?_⟩
 .by_cases hm:dl=true
  .rw[if_pos hm,if_neg (by rw[Ft hm];decide)];exact⟨rfl,rfl⟩
  .rw[if_neg hm];exact⟨rfl,rfl⟩
 rintro Z H2 ⟨rfl,rfl⟩;fail "r";refine⟨by decide,λq H3 hq s3 Fn=>?_⟩;have BT:q≠p:=by obtain⟨dx,hp⟩:=c1;exact (aJ hp hq).symm
 have c3:=c1.same s3;have Fl:SameBut p H H3:=s1.trans s3.but;have Fq:H q=none:=s1.free hq BT;have Fp:ss.length<=t.length:=by have h1:=zO hw;have h2:=congrArg List.length Cl;rw[length_drop,length_append] at h2;lia
 obtain⟨W,hW⟩:∃W:Nat->St->Hp->Prop,W=λm Z H'=>(Ex6 λ(dn:List Tq) (s:Tq) (EZ:List Tq) (v':Tq) (j':Nat) (en:Bool)=>m=EZ.length+1/\Z=[some (.ref p),some (.bl dl),some (.bl r),some (.ref q),some (.bl en),some (.str ⟨s.toArray⟩)]/\s≠[]/\ss=dn++s::EZ/\TlW EZ e v'/\Cur H' g.aH p t j'/\j'<=t.length/\t.drop j'=v'++rest/\H' q=some (.lst (dn.map sV))/\SameBut p H H')
  \/(m=0/\Z=[some (.ref p),some (.bl dl),some (.bl r),some (.ref q),some (.bl e),some (.str ⟨#[]⟩)]/\H' q=some (.lst (ss.map sV))/\SameBut p H H'/\Cur H' g.aH p t (t.length - rest.length)):=⟨_,rfl⟩
 have rl:∀{Fj:Nat}{v'':Tq},t.drop Fj=v''++rest->Fj+v''.length=t.length - rest.length\/t.length < Fj:=λ{Fj v''} h=>by have:=congrArg List.length h;rw[length_drop,length_append] at this;lia
 refine⟨λZ H4=>∃m,W m Z H4,?_,?_⟩
 .cases hw with
  |none=>
   refine⟨p,t,frS,[],[],rest,j,none,rfl,c3,hj,hl,mt,cS,Cl,.nil,.inl EX,(λm z=>by cases z),λH4 s4 c4=>⟨0,?_⟩⟩;rw[hW];refine .inr ⟨rfl,by rw[he rfl],s4 _ _ BT Fn,Fl.trans s4,?_⟩;rcases rl (v'':=[]) Cl with z|z
   .rw[<- z];exact c4
   .lia
  |some hws hs Fb=>
   rename_i s w0 ss0 v0;refine⟨p,t,frS,s,w0,v0++rest,j,none,rfl,c3,hj,hl,mt,cS,by rw[Cl,append_assoc],hws,.inl (lL Fb EX),(λm z=>by cases z),λH4 s4 c4=>⟨ss0.length+1,?_⟩⟩;rw[hW];refine .inl ⟨[],s,ss0,v0,j+w0.length,r,rfl,rfl,hs,rfl,Fb,c4,?_,?_,s4 _ _ BT Fn,Fl.trans s4⟩
   .have:=congrArg List.length Cl;rw[length_drop,length_append,length_append] at this;lia
   .rw[<- drop_drop,Cl,append_assoc,drop_left]
 rintro Z H4 ⟨m,hm⟩;unfold L2.Later;rw[L2.ff];refine cN W m hm ?_;rintro m Z H5 hm;rw[hW] at hm;rcases hm with⟨dn,s,EZ,v',j',en,rfl,rfl,hs,Fg,Fb,c5,Ff,EY,Fe,Fh⟩|⟨rfl,rfl,Fe,Fh,c5⟩
 .fail "r";refine ite2 (λ_=>⟨_,λ_ _ h=>h,⟨_,.of Fe⟩,_,Fe,?_,?_⟩) (λz=>absurd (bF.mp (Classical.not_not.mp z)) hs)
  .have:=congrArg List.length Fg;rw[length_append,length_cons] at this;rw[length_map];exact Nat.lt_of_le_of_lt (show dn.length<=100000 by lia) (by decide)
  have c6:Cur (upd H5 q (.lst (dn.map sV++[sV s]))) g.aH p t j':=by obtain⟨dx,hp⟩:=c5;exact⟨dx,by rw[aE BT.symm];exact hp⟩
  have Fa:SameBut p H (upd H5 q (.lst (dn.map sV++[sV s]))):=Fh.upd Fq;have Fc:(upd H5 q (.lst (dn.map sV++[sV s]))) q=some (.lst ((dn++[s]).map sV)):=by rw[aC,map_append];rfl
  generalize upd H5 q (.lst (dn.map sV++[sV s]))=H6 at c6 Fa Fc ⊢;cases Fb with
  |stop=>
   refine aL c6 (be c6 Ff hl EY Fo ?_);refine⟨p,t,frS,[],[],rest,j',none,rfl,c6,Ff,hl,mt,cS,EY,.nil,.inl EX,(λm z=>by cases z),λH7 s7 c7=>⟨0,by lia,?_⟩⟩;rw[hW];refine .inr ⟨rfl,rfl,by rw[Fg];exact s7 _ _ BT Fc,Fa.trans s7,?_⟩;rcases rl (v'':=[]) EY with z|z
   .rw[<- z];exact c7
   .lia
  |ends=>
   refine aL c6 (ay (w:=[47]) (r:=rest) c6 Ff hl EY λH7 s7 c7 Fk EW=>?_);refine⟨p,t,frS,[],[],rest,_,none,rfl,c7,Fk,hl,mt,cS,EW,.nil,.inl EX,(λm z=>by cases z),λH8 s8 c8=>⟨0,by lia,?_⟩⟩;rw[hW];refine .inr ⟨rfl,rfl,by rw[Fg];exact (s7.trans s8) _ _ BT Fc,(Fa.trans s7).trans s8,?_⟩;rcases rl (v'':=[]) EW with z|z
   .rw[<- z];exact c8
   .lia
  |more hws hs2 htl2=>
   rename_i s2 w2 ss2 v2;refine aL c6 (ay (w:=[47]) (r:=(w2++v2)++rest) c6 Ff hl EY λH7 s7 c7 Fk EW=>?_);refine⟨p,t,frS,s2,w2,v2++rest,_,none,rfl,c7,Fk,hl,mt,cS,by rw[EW,append_assoc],hws,.inl (lL htl2 EX),(λm z=>by cases z),λH8 s8 c8=>⟨ss2.length+1,by simp only[length_cons];lia,?_⟩⟩;rw[hW];refine .inl ⟨dn++[s],s2,ss2,v2,_,true,rfl,rfl,hs2,by rw[Fg,append_assoc];rfl,htl2,c8,?_,?_,(s7.trans s8) _ _ BT Fc,(Fa.trans s7).trans s8⟩
   .have:=congrArg List.length EW;rw[length_drop,length_append,length_append] at this;lia
   .rw[<- drop_drop,EW,append_assoc,drop_left]
 .fail "r";exact⟨_,.inl (.of Fe),λpt Ha sa Fs=>⟨by decide,λpw Hb nb Fi Fr=>k _ Hb ((Fh.trans sa.but).trans Fi.but) ((c5.same sa).same Fi) (wayT' Fr (Fi _ _ Fs))⟩⟩
theorem EB:g.Dh.Ok P w base 5 (sp_taken_value K g.aH):=by
 refine lnF rZ ?_;rintro EX A mt s H vs Q E hr ⟨p,t,w',r,i,o,rfl,dl,hi,hl,ld,hd,hw,BT,hh,k⟩
 nomatch (aD (aQ (bh (aW (ac (pv 0) g.aI g.ax (b9 g) (hr.mono (by decide)) g.aw .nil pass0 (a8 aO aB))) (ag (dvs:=[.non]) (bx g) (hr.mono (by decide)) rfl g.bd g.bQ.kp g.bu (.cons rfl .nil) pass0 (a8 (pv 0) (a8 (by fail "D") aB))) d8))),rZ.nd,g.iX
 have eF:iQ=.str ⟨frQ.toArray⟩:=by show V.str (ofString _)=_;unfold frQ;simp
 have e1:ofString "="=⟨[61].toArray⟩:=by fail "k"
 rw[eF,e1];fail "r";cases o with
 |none=>have hw:w'=[]:=hw;subst hw;refine aL dl (be dl hi hl hd (by simpa using hh) ⟨_,rfl,?_⟩);rw[if_neg (by decide)];exact k H (SameBut.refl _ _) dl
 |some s=>obtain⟨v,rfl,hv⟩:=hw;refine aL dl (ay (w:=[61]) (r:=v++r) dl hi hl hd λH1 s1 c1 Cl EW=>⟨_,rfl,?_⟩);rw[if_pos rfl];refine⟨p,t,frQ,s,v,r,_,none,rfl,c1,Cl,hl,ld,dj,EW,hv,.inl BT,(λm z=>by cases z),λH2 s2 c2=>k H2 (s1.trans s2) ?_⟩;rw[length_cons,show i+(v.length+1)=i+[61].length+v.length by simp only[length_singleton];lia];exact c2
theorem EC:g.Di.Ok P w base 5 (sp_taken_mark K g.aH):=by
 refine lnF rc ?_;rintro EW A mt s H vs Q E hr ⟨p,t,w',i,o,rfl,dl,hi,hl,ld,hd,hw,k⟩
 nomatch (aD (aQ (bh (aW (ac (pv 0) g.aI g.ax (b9 g) (hr.mono (by decide)) g.aw .nil pass0 (a8 aO aB))) (ag (dvs:=[.non]) (bx g) (hr.mono (by decide)) rfl g.bd g.bQ.kp g.bu (.cons rfl .nil) pass0 (a8 (pv 0) (a8 (by fail "D") aB))) d8))),rc.nd,g.oQ
 have eF:o0=.str ⟨frM.toArray⟩:=by show V.str (ofString _)=_;unfold frM;simp
 have e1:ofString "#"=⟨[35].toArray⟩:=by fail "k"
 rw[eF,e1];fail "r";cases o with
 |none=>
  have hw:w'=[]:=hw;refine aL dl (be dl hi hl hd (by rw[hw];simp) ⟨_,rfl,?_⟩);rw[if_neg (by decide)];have e:i=t.length:=by have:=congrArg List.length hd;rw[length_drop,hw,length_nil] at this;lia
  exact k H (SameBut.refl _ _) (e▸dl)
 |some s=>
  obtain⟨v,rfl,hv⟩:=hw;refine aL dl (ay (r:=v) dl hi hl hd λH1 s1 c1 Cl BT=>⟨_,rfl,?_⟩);rw[if_pos rfl];refine⟨p,t,frM,s,v,[],_,none,rfl,c1,Cl,hl,ld,zM,by rw[BT,append_nil],hv,.inl gO,(λm z=>by cases z),λH2 s2 c2=>k H2 (s1.trans s2) ?_⟩;have e:i+[35].length+v.length=t.length:=by have:=congrArg List.length BT;rw[length_drop] at this;lia
  rw[e] at c2;exact c2
theorem sF:FnOk P w K mg base CX0 5 g.f9 g.cn ["cursor","free","most"] (sp_taken_filled_text K g.aH):=by
 refine lnT (g.fA.ok iz) ?_;rintro EY A mt s H vs Q E hr ⟨p,t,fr,s,w',r,i,mo,rfl,dl,hi,hl,ld,EX,hd,hw,Cl,BT,EW,k⟩
 nomatch (a9 (sx 3 iz.nd (ag (bx g) (hr.mono (by decide)) rfl g.bd g.bQ.kp g.pK .nil pass0 (a8 (pv 0) (a8 (pv 1) (a8 (pv 2) aB)))))
   (a9 (by fail "D")
   (aD (by fail "D")))),iz.nd,hint 1 407
 fail "r";refine⟨p,t,fr,s,w',r,i,mo,rfl,dl,hi,hl,ld,EX,hd,hw,BT,EW,λH1 s1 c1=>?_⟩;fail "r";rw[if_neg (λz=>Cl (bF.mp z))];exact k H1 s1 c1
theorem ED:g.Dj.Ok P w base 5 (sp__law_small K):=by
 refine lnF re ?_;rintro F0 A Fc s H vs Q E hr ⟨c,pn,ns,rfl,Fh,Fx,hn,Fi,k⟩
 nomatch (a9 (by fail "D")
   (a9 (by fail "D")
   (aP (by fail "D")
   (aP (aS (by fail "D")
    (aD (jK (by fail "D") (si (pv 3) (by fail "D") uQ))) aT)
   (aD (aQ (cP (a8 (by fail "D") (a8 (jH (pcm (k7 hr.units) (pv 3) (by fail "D")) (bR (by fail "D"))) aB))))))))),re.nd,Et,hint 2 0,g.av,hint 7 0
 fail "r";obtain⟨m,hm,Fy⟩:∃m:Nat,c % 6=(m:Int)/\m<=5:=⟨(c % 6).toNat,by lia,by lia⟩;rw[hm];clear hm;refine⟨by decide,by decide,λp1 H1 n1 s1 Fs=>?_⟩;refine⟨λZ H'=>Same H H'/\Ex3 λ(v5:Option V) (ps:List Pc) (xs:List V)=>Z=[some (.int c),some (.ref pn),some (.int (m:Int)),some (.ref p1),v5]/\PcT H' ps xs/\H' p1=some (.lst xs)/\ps.length=m/\(∀x∈ps,(PcOk x/\PcSg x)/\x.isRest=false)/\NmP ns ps,⟨by lia,by lia,?_⟩,?_⟩
 .rw[Int.toNat_natCast];refine cK (λi Z H'=>Same H H'/\Ex3 λ(v5:Option V) (ps:List Pc) (xs:List V)=>Z=[some (.int c),some (.ref pn),some (.int (m:Int)),some (.ref p1),v5]/\PcT H' ps xs/\H' p1=some (.lst xs)/\ps.length=i/\(∀x∈ps,(PcOk x/\PcSg x)/\x.isRest=false)/\NmP ns ps) ⟨s1,none,[],[],rfl,.nil,Fs,rfl,(λx hx=>by cases hx),(λi c h=>by simp at h)⟩ ?_ ?_
  .rintro i Z H2 hi ⟨s2,v5,ps,xs,rfl,hP,BT,mt,dl,ld⟩;have Fg:=hP.length;fail "r";have Fu:i=0\/i=1\/i=2\/i=3\/i=4:=by lia
   have hb:0 < 6+31 * (0+(i:Int)) * (0+(i:Int))/\6+31 * (0+(i:Int)) * (0+(i:Int)) < 1073741824:=by rcases Fu with rfl|rfl|rfl|rfl|rfl <;> decide
   obtain⟨nm,Cl⟩:∃z,ns[i]?=some z:=⟨_,List.getElem?_eq_getElem (by lia)⟩;have Ft:=Fi nm (mem_of_getElem? Cl);refine⟨⟨_,.of BT⟩,.inl ⟨by decide,by decide⟩,.inr ⟨by lia,by lia⟩,hb,_,_,.inl (.of (s2 _ _ Fh)),by rw[Int.zero_add];exact a0 (by rw[List.getElem?_map,Cl];rfl),_,nm,rfl,λEY b H3 Ff Fo Fe s3 Fv=>?_⟩;have st:=bD (ys:=xs++[.ref b]) (s3 _ _ BT);have Fn:PcSg EY:=gt Ff λx hx=>by
    cases hst:EY.isStep with
    |true=>
     cases EY with
     |step s=>exact absurd (show x∈([]:Tq) from hx) not_mem_nil
     |_=>cases hst
    |false=>rw[Fe hst] at hx;exact Ft x hx
   refine⟨_,s3 _ _ BT,by rw[Fg];exact Nat.lt_of_le_of_lt (show ps.length<=5 by lia) (by decide),gu (s2.trans s3) n1,_,ps++[EY],xs++[.ref b],rfl,PcT.append (.cons (st _ _ Fv) .nil) ((hP.mono s3.toT).mono st),aC,by rw[length_append,length_singleton,mt],λy hy=>?_,ld.snoc λh9=>by rw[mt,Fe h9];exact Cl⟩;rcases mem_append.mp hy with z|z
   .exact dl y z
   .rw[mem_singleton.mp z];exact⟨⟨Ff,Fn⟩,Fo⟩
  .rintro Z H2 ⟨s2,v5,ps,xs,rfl,hP,BT,mt,dl,ld⟩;exact⟨s2,v5,ps,xs,rfl,hP,BT,mt,dl,ld⟩
 rintro Z H2 ⟨s2,v5,ps,xs,rfl,hP,BT,mt,dl,ld⟩;have Fg:=hP.length;fail "r";refine⟨λZ H3=>Same H H3/\Ex2 λ(ps:List Pc) (xs:List V)=>Z=[some (.int c),some (.ref pn),some (.int (m:Int)),some (.ref p1),v5]/\PcT H3 ps xs/\H3 p1=some (.lst xs)/\ps.length<=5/\(∀x∈ps,PcOk x/\PcSg x)/\LastR ps/\NmP ns ps,⟨⟨by decide,by decide⟩,by decide,ite2 (λ_=>⟨by decide,λp3 H3 n3 s3 Fr=>?_⟩) (λ_=>⟨s2,ps,xs,rfl,hP,BT,by lia,λx hx=>(dl x hx).1,nY λx hx=>(dl x hx).2,ld⟩)⟩,?_⟩
 .have Fm:=hP.mono s3.toT;have EW:=s3 _ _ BT;refine⟨.list (ps.map pcD),.list [],.lst EW Fm.isT.is,.lst Fr .nil,(m8 λc hc=>(dl c hc).1.2).shaped (by decide),by fail "k",_,rfl,?_⟩;rw[de];refine ite2 (λFb=>?_) (λ_=>⟨s2.trans s3,ps,xs,rfl,Fm,EW,by lia,λx hx=>(dl x hx).1,nY λx hx=>(dl x hx).2,ld⟩);have Fp:0 < ps.length:=by
   cases ps with
   |nil=>cases Fb
   |cons a b=>simp
  obtain⟨nm,Cl⟩:∃z,ns[m - 1]?=some z:=⟨_,List.getElem?_eq_getElem (by lia)⟩;refine⟨_,_,.inl (.of ((s2.trans s3) _ _ Fh)),by rw[show ((m:Int) - 1)=((m - 1:Nat):Int) by lia];exact a0 (by rw[List.getElem?_map,Cl];rfl),by decide,λp4 H4 n4 s4 Fa=>?_⟩;have Fk:=s4 _ _ EW;have Fz:p4≠p1:=λz=>by rw[z,Fk] at Fa;cases Fa
  refine⟨xs,xs.length - 1,Fk,?_,?_⟩
  .have Fw:0 < xs.length:=by lia
   unfold ixN;rw[if_neg (by lia)];rw[if_pos (by lia)]
   congr 1
   lia
  have ex:xs.set (xs.length - 1) (.ref p4)=xs.take (ps.length - 1)++[.ref p4]:=by rw[List.set_eq_take_append_cons_drop,if_pos (by lia),Fg,drop_eq_nil_of_le (by lia)]
  rw[ex];have st:=bD (ys:=xs.take (ps.length - 1)++[.ref p4]) Fk;refine⟨gu ((s2.trans s3).trans s4) n1,ps.take (ps.length - 1)++[.rest nm],_,rfl,PcT.append (.cons (st _ _ Fa) .nil) (((Fm.mono s4.toT).mono st).take _),aC,by rw[length_append,length_take,length_singleton];lia,λx hx=>?_,C5 λx hx=>(dl x (mem_of_mem_take hx)).2,(ld.take _).snoc λ_=>by rw[length_take,show min (ps.length - 1) ps.length=m - 1 by lia];exact Cl⟩;rcases mem_append.mp hx with z|z
  .exact (dl x (mem_of_mem_take z)).1
  .rw[mem_singleton.mp z];exact⟨trivial,gt trivial (Fi nm (mem_of_getElem? Cl))⟩
 clear hP BT dl ld Fg mt s2;clear ps xs H2;rintro Z H3 ⟨s3,ps,xs,rfl,hP,EW,mt,dl,Fj,ld⟩;fail "r";refine⟨_,.inl (.of EW),λt H4 s4 ht=>⟨by decide,λp5 H5 n5 s5 Fq=>?_⟩⟩;have EX:=s4.trans s5;have Fl:=hP.mono EX.toT;refine⟨.list (ps.map pcD),.list [],.lst (EX _ _ EW) Fl.isT.is,.lst Fq .nil,(m8 λc hc=>(dl c hc).2).shaped (by decide),by fail "k",_,rfl,?_⟩;rw[de,isEmpty_map];refine ite2 (λ_=>⟨by decide,λp6 H6 n6 s6 EZ=>?_⟩) (λFb=>⟨⟨by decide,by decide⟩,by decide,by decide,λp6 H6 n6 s6 EZ=>?_⟩)
 .exact k ps _ p6 H6 dl Fj ld mt (λ_=>rfl) ((s3.trans EX).trans s6) ⟨t,_,EZ,(s5.trans s6) _ _ ht,Fl.mono s6.toT⟩
 .exact k ps _ p6 H6 dl Fj ld mt (λz=>absurd (by rw[z];rfl) Fb) ((s3.trans EX).trans s6) ⟨t,_,EZ,(s5.trans s6) _ _ ht,Fl.mono s6.toT⟩
theorem EE:g.Dk.Ok P w base 5 (sp__law_values K):=by
 refine lnF fH ?_;rintro Fx A Fb s H vs Q E hr ⟨cs,e,p,pc,is,rfl,Fk,Fm,Fw,Fl,Fs,Fr,k⟩
 nomatch (a9 (by fail "D")
   (a9 (bC PassesOwn.never rfl (gX (K:=K) rfl rfl g.br.1 (a8 (by fail "D") aB)) (bo (n:=2) (K:=K) rfl rfl (af (pgn 3 fH.nd) (af (pgn 4 fH.nd) bS)))
   (by fail "D"))
   (aD (by fail "D")))),fH.nd,DX,Eu,DY,hint 2 0,g.aK
 fail "r";have ld:(is.map V.int).length=is.length:=length_map ..;refine⟨by decide,λl H1 n1 s1 hl=>⟨cs,e,p,rfl,Fk.mono s1.toT,by lia,λlg xs H2 n2 s2 Fe hx=>?_⟩⟩;obtain⟨gs,EW⟩:∃gs,gs=cs.filter λc=>!c.isStep:=⟨_,rfl⟩;rw[<- EW] at hx;have Fq:=hx.length;have Ft:gs.length<=12:=by have:=length_filter_le (λc:Pc=>!c.isStep) cs;rw[<- EW] at this;lia
 have Fo:∀c∈gs,PcOk c/\c.isStep=false:=λc hc=>by rw[EW] at hc;obtain⟨h1,h2⟩:=mem_filter.mp hc;exact⟨Fm c h1,by simpa using h2⟩
 refine⟨lg,xs,rfl,.of Fe,?_⟩;have EZ:lg≠l:=λz=>by rw[z,hl] at n2;cases n2
 refine gY (xs:=xs) (λi Z H'=>H' lg=some (.lst xs)/\PcT H' gs xs/\Ex5 λ(bs:List (Tq×Vl)) (ys:List V) (v3 v4 v5:Option V)=>Z=[some (.ref p),some (.ref pc),some (.ref l),v3,v4,v5]/\GvA (gs.take i) bs/\FrB H H' ys/\Same H H'/\H' l=some (.lst ys)/\BndV H' l bs ys/\bs.length=i/\∀b∈bs,SmV b.2) ⟨Fe,hx,[],[],none,none,none,rfl,.nil,(show FrB H H2 [] from λv hv=>by cases hv),s1.trans s2,s2 _ _ hl,.nil,rfl,(λb hb=>by cases hb)⟩ (λi Z H' _ h=>.of h.1) ?_ ?_;rotate_left
 .rintro Z H3 ⟨BT,EX,bs,ys,v3,v4,v5,rfl,hG,hF,s3,Cl,hB,Fg,EY⟩;fail "r";rw[Fq,take_length,EW] at hG;exact k bs l ys H3 hG.whole EY n1 hF s3 Cl hB
 rintro i v Z H3 T hv ⟨BT,EX,bs,ys,v3,v4,v5,rfl,hG,hF,s3,Cl,hB,Fg,EY⟩ hT;obtain⟨c,b,hc,rfl,hb⟩:=EX.get hv;have hi:i < gs.length:=(List.getElem?_eq_some_iff.mp hc).1;obtain⟨co,Fa⟩:=Fo c (mem_of_getElem? hc);have sT:Same H3 (upd H3 T (.tup [.int (i:Int),.ref b])):=aN hT;fail "r";refine⟨T,_,rfl,.of aC,rfl,_,_,rfl,_,_,rfl,rfl,?_⟩;generalize upd H3 T (.tup [.int (i:Int),.ref b])=H4 at sT;have u4:=s3.trans sT;have mt:=u4.seq Fl;fail "r";obtain⟨j,hj,ej⟩:∃j:Nat,j < is.length/\(i:Int) % (is.length:Int)=(j:Int):=by have h1:=Int.emod_nonneg (i:Int) (show (is.length:Int)≠0 by lia);have h2:=Int.emod_lt_of_pos (i:Int) (show 0 < (is.length:Int) by lia);exact⟨((i:Int) % (is.length:Int)).toNat,by lia,by lia⟩
 have Fv:0<=(i:Int) / (is.length:Int):=Int.ediv_nonneg (by lia) (by lia);have Fu:(i:Int) / (is.length:Int)<=(i:Int):=Int.ediv_le_self _ (by lia);refine⟨_,.inl mt,?_⟩;rw[ld];refine⟨by lia,_,.int is[j],.inl mt,by rw[ej];exact a0 (by rw[List.getElem?_map,List.getElem?_eq_getElem hj];rfl),_,.inl mt,?_⟩;rw[ld];refine⟨⟨by lia,by lia⟩,rd_I.mpr ⟨⟨by lia,by lia⟩,?_⟩⟩;generalize is[j] / ((i:Int) / (is.length:Int)+1)=cc;have Fn:=sT _ _ Cl;have Fp:=sT _ _ hb;have hyl:=hB.length;refine⟨⟨_,.of Fn⟩,c,b,rfl,.of Fp,Fa,c,b,cc,rfl,Fp,co,Fa,λx v H5 hg Fj s5 Fi Fc=>⟨by decide,λp6 H6 n6 s6 e6=>?_⟩⟩;have dl:=(sT.trans s5).trans s6;have Ff:=dl _ _ Cl;have Fh:∀q,v=.ref q->q≠l:=λq z w=>by have:=Fc q z;rw[w,Fn] at this;cases this
 have sL:=bD (ys:=ys++[.ref p6]) Ff;refine⟨ys,Ff,Nat.lt_of_le_of_lt (show ys.length<=12 by lia) (by decide),by rw[aE EZ];exact dl _ _ BT,(EX.mono dl.toT).mono sL,bs++[(c.name,x)],ys++[.ref p6],_,_,_,⟨rfl,rfl,rfl⟩,?_,((hF.mono dl.toT).snoc e6 λq z=>eC u4 (Fc q z)).mono sL,bL n1 (s3.trans dl),aC,((hB.mono dl).snoc e6 (Fi.mono s6) Fh).upd Ff,by rw[length_append,length_singleton,Fg],λz hz=>?_⟩
 .rw[take_add_one,hc];exact hG.snoc Fa hg
 .rcases mem_append.mp hz with y|y
  .exact EY z y
  .rw[mem_singleton.mp y];exact Fj
theorem EF:g.Dl.Ok P w base 6 (sp_is_pattern K):=by
 refine lnF rf ?_;rintro ld A dl s H vs Q E hr ⟨cs,e,v,rfl,hv,hG,k⟩
 exists rf.nd,Ex,rn,g.bP,g.aK,g.eR,g.ig,g.au,g.av
 obtain⟨p,_,_,rfl,hp,h1,h2⟩:=isT2 hv;cases h2;obtain⟨q,xs,rfl,hq,hx⟩:=bX h1;have i0:=hv.is;have hs:SqT K H p [.ref q,.bl e]:=.of hp;fail "r";refine⟨_,_,2,rfl,i0,_,rfl,ite2 (λz=>absurd z (by rw[show tupN 2 (ptD cs e)=true from eI (n:=2).mpr rfl];decide)) (λ_=>?_)⟩;refine⟨_,_,.inr hs,a0 (j:=0) rfl,_,L2.cO hq,ite2 (λz=>absurd z (by decide)) (λ_=>⟨_,_,.inr hs,a0 (j:=1) rfl,_,L2.k8,ite2 (λz=>absurd z (by decide)) (λ_=>⟨_,_,.inr hs,a0 (j:=0) rfl,cs,e,xs,q,rfl,hq,hx,hG,λH1 s1=>⟨_,rfl,ite2 (λ_=>⟨_,_,.inr (s1.tup hs),a0 (j:=1) rfl,e,rfl,?_⟩) (λz=>absurd rfl z)⟩⟩)⟩)⟩;cases e with
 |true=>exact ite2 (λ_=>k H1 s1) (λz=>absurd rfl z)
 |false=>
  refine ite2 (λz=>by cases z) (λ_=>⟨_,_,.inr (s1.tup hs),a0 (j:=0) rfl,?_⟩);fail "r";refine⟨_,.inr (.of (s1 _ _ hq)),?_⟩;have h3:=(iL hx).1;rw[length_map] at h3;have h4:0 < cs.length:=length_pos_iff.mpr λz=>by cases hG.2.2.2.2 z
  rw[decide_eq_true (show (0:Int) < (xs.length:Int) by lia)];exact k H1 s1
theorem EG:g.oK.Ok P w base 6 (sp_read_piece K):=by
 refine lnF fI ?_;rintro BT A dl s H vs Q E hr ⟨c,t,rfl,hw,l1,k⟩
 nomatch (a9 (sx 1 fI.nd (aZ (K:=K) rfl PySem.F.plainAttrs_str PySem.F.slot_str_partition PySem.F.type_str_partition df (pv 0) (a8 aO aB)))
   (a9 (aS (by fail "D")
    (aD (aQ (cP (a8 aO (a8 (ag (jC g) (hr.mono (by decide)) rfl g.f6 g.ck.kp g.f7 .nil pass0 (a8 (pv 0) (a8 (by fail "D") aB))) aB))))) aT)
   (a9 (sx 2 fI.nd (aZ (K:=K) rfl PySem.F.plainAttrs_str PySem.F.slot_str_partition PySem.F.type_str_partition df (by fail "D") (a8 aO aB)))
   (a9 (by fail "D")
   (aD (by fail "D")))))),fI.nd,Ey,g.eO
 have b1:ofString "{"=⟨[123].toArray⟩:=by fail "k"
 have b2:ofString "}"=⟨[125].toArray⟩:=by fail "k"
 have eF:eK=.str ⟨frS.toArray⟩:=congrArg V.str (cZ _).symm;rw[b1,b2,eF];fail "r";refine⟨by decide,aA (by lia),λp hp=>?_⟩;rcases BV hw with⟨s,rfl,hs⟩|⟨a,i,b,rfl,ha,hi,hg⟩
 .rw[show Txt.partition ⟨t.toArray⟩ ⟨#[123]⟩=_ from nJ λz=>(ca hs _ z).2.1 rfl];refine⟨_,_,.inr (.of aC),a0 (j:=1) rfl,aF.mpr ⟨_,rfl,ite2 (λ_=>⟨l1,iJ hs,λH1 s1=>⟨by decide,λp2 H2 n2 s2 e2=>k _ _ ((aN hp).trans (s1.trans s2)) ?_⟩⟩) (λz=>absurd (decide_eq_true rfl) z)⟩⟩;rw[iI hs] at e2;exact .tup e2 (.cons (.str _) (.cons (.str _) .nil))
 .rw[length_append,length_cons,length_append,length_cons] at l1;rw[show Txt.partition ⟨(a++123::(i++125::b)).toArray⟩ ⟨#[123]⟩=_ from iF ha];refine⟨_,_,.inr (.of aC),a0 (j:=1) rfl,aF.mpr ⟨_,rfl,ite2 (λz=>absurd (of_decide_eq_true z) (show (⟨#[123]⟩:Str)≠⟨#[]⟩ by decide)) (λ_=>?_)⟩⟩;generalize hH:upd H p _=H1;have s1:Same H H1:=hH▸aN hp;have mt:SqT K H1 p [.str (mkS a),.str (mkS [123]),.str (mkS (i++125::b))]:=hH▸.of aC;refine⟨_,_,.inr mt,a0 (j:=2) rfl,?_⟩;fail "r";refine⟨by decide,aA (by rw[length_append,length_cons];lia),λp2 ld=>?_⟩;rw[show Txt.partition ⟨(i++125::b).toArray⟩ ⟨#[125]⟩=_ from iF hi];refine⟨_,_,.inr (.of aC),a0 (j:=1) rfl,aF.mpr ⟨_,rfl,ite2 (λz=>absurd (of_decide_eq_true z) (show (⟨#[125]⟩:Str)≠⟨#[]⟩ by decide)) (λ_=>?_)⟩⟩;exact⟨_,_,.inr ((aN ld).tup mt),a0 (j:=0) rfl,_,_,.inr (.of aC),a0 (j:=0) rfl,_,_,.inr (.of aC),a0 (j:=2) rfl,c,a,i,b,rfl,hg,by lia,by lia,by lia,λv H2 s2 hv=>k v H2 ((s1.trans (aN ld)).trans s2) hv⟩
theorem EH:g.Dm.Ok P w base 6 (sp_filled_steps K):=by
 refine lnF j0 ?_;rintro Fc A EW s H vs Q E hr ⟨c,p,pz,ws,ys,ss,rfl,hp,hh,ht,EY,hw,Fb,EZ,dl,k⟩
 nomatch (a9 (by fail "D")
   (a9 (cmpS2 K ["piece"] [0] 2 j0.nd (cM (K:=K) rfl (pv 1)) (cL (ptm cE (pv 0) (aY g.iS (j7 g) hr rfl (a8 (pv 2) aB)))) (pv 1))
   (a9 (by fail "D")
   (aD (by fail "D"))))),j0.nd,E7,Ez,j6,g.aK,hint 1 262,hint 2 0
 fail "r";refine⟨c,p,rfl,hp,_,rfl,?_⟩;cases hst:c.isStep with
 |true=>
  refine ite2 (λ_=>?_) (λz=>absurd rfl z);cases c with
  |step s=>cases dl;exact⟨_,_,.inr hp,a0 (j:=1) rfl,by decide,λp1 H1 n1 s1 mt=>k p1 H1 s1 mt⟩
  |_=>cases hst
 |false=>
  refine ite2 (λz=>absurd z (by decide)) (λ_=>?_);have hyl:=hw.length;rw[mF hst] at dl;refine⟨⟨_,.of EY⟩,λp0 n0=>?_⟩;refine At (λi=>prAt H ys i) (λi=>decide ((ws[i]?.map (·.1))=some c.name)) (λi=>(prAt H ys i).2) (.of EY) (aA (by lia)) n0 (λi x H1 hx s1=>?_) (λi hi H1 R s1 hR=>?_) (λi hi ht H1 T s1 hT=>?_) (λH1 s1 mt=>?_)
  .obtain⟨n,d,b,v,h1,rfl,h3,h4⟩:=hw.get hx;rw[gf hx h3];exact⟨b,rfl,.of (s1 _ _ h3)⟩
  .have hx:ys[i]?=some ys[i]:=List.getElem?_eq_getElem hi;obtain⟨n,d,b,v,h1,h2,h3,h4⟩:=hw.get hx;rw[h2] at hx;rw[gf hx h3];have:=hR H1 (Same.refl _);rw[h1] at this;fail "r";refine⟨c,p,rfl,s1.tup hp,hst,aF.mpr ⟨_,rfl,?_⟩⟩;have e:decide ((⟨n.toArray⟩:Str)=⟨c.name.toArray⟩)=decide ((some (n,d)).map (·.1)=some c.name):=by
    rw[decide_eq_decide,aR];exact⟨λz=>by rw[z];rfl,λz=>Option.some.inj z⟩
   rw[e];exact this
  .fail "r";exact hT H1 (Same.refl _)
  have ld:=Au hw c.name (λi=>(prAt H ys i).2) (λi m d q v h1 h2 h3=>by rw[gf h2 h3]);have BT:H1 p0=some (.lst (((List.range ys.length).filter λi=>decide ((ws[i]?.map (·.1))=some c.name)).map λi=>(prAt H ys i).2)):=mt;generalize (((List.range ys.length).filter λi=>decide ((ws[i]?.map (·.1))=some c.name)).map λi=>(prAt H ys i).2)=ls at ld BT;clear mt;have EX:∀d∈named ws c.name,smallD d=true:=λd hd=>by obtain⟨q,hq,rfl⟩:=mem_map.mp hd;exact EZ q (mem_filter.mp hq).1
  have Fa:=ld.length;cases hn:named ws c.name with
  |nil=>rw[hn] at dl;cases dl
  |cons d r=>
   cases r with
   |cons d2 r2=>rw[hn] at dl;cases dl
   |nil=>
    rw[hn] at dl Fa ld EX;have dl:(if isValD c d=true then (.ok (stpsD c d):Except Tq (List Tq)) else .error c.name)=.ok ss:=dl;by_cases hv:isValD c d=true
    .rw[if_pos hv] at dl;cases dl;refine fb.mpr ⟨ls,.inl (.of BT),jv.mpr ⟨_,rfl,ite2 (λz=>absurd z (by rw[<- Fa];simp)) (λ_=>?_)⟩⟩;have hd:smallD d=true:=EX d (mem_singleton.mpr rfl);obtain⟨u,rfl,hu⟩:∃u,ls=[u]/\Is H d u:=by
      cases ld with
      |cons h r=>cases r;exact⟨_,rfl,h⟩
     refine fh.mpr ⟨_,u,.inl (.of BT),rfl,c,p,d,u,rfl,s1.tup hp,hst,hh,ht,hu.mono s1,hd,hv,λH2 s2=>⟨_,rfl,ite2 (λz=>by cases z) (λ_=>?_)⟩⟩;have Cl:=s1.trans s2;exact fh.mpr ⟨_,u,.inl (.of (s2 _ _ BT)),rfl,c,p,d,u,rfl,Cl.tup hp,hst,hh,ht,hu.mono Cl,hd,hv,λq H3 s3 hq=>k q H3 (Cl.trans s3) hq⟩
    .rw[if_neg hv] at dl;cases dl
theorem sG:g.Dn.Ok P w base 6 (sp_lead K):=by
 refine lnF j3 ?_;rintro Fj A EW s H vs Q E hr ⟨l,pw,ps,T,ws,r,e,ss,rfl,hl,hT,Cl,Fi,Fa,Fb,EZ,EY,k0,k⟩
 nomatch (aP (cmpS ["way"] [1] 2 j3.nd (cM (K:=K) rfl (pv 0)) (cL (aW (aY g.oI (sD g) hr rfl (a8 (px K (pv 0) aV) (a8 (pv 1) aB))))) (pv 0))
   (a9 (by fail "D")
   (a9 (by fail "D")
   (aD (by fail "D"))))),j3.nd,sE,Er,hint 2 0,g.aK
 fail "r";have hwl:=hT.length;refine⟨λZ H1=>Same H H1/\Ex2 λ(l1:Addr) (us:List V)=>Z=[some (.ref l),some (.ref pw),some (.ref l1),none]/\H1 l1=some (.lst us)/\TbV H1 (T.filter (fitR r e ss)) us,⟨⟨_,.of hl⟩,λl1 n1=>?_⟩,?_⟩
 .refine Br (λi=>match T[i]? with|some t=>fitR r e ss t|none=>false) (λi=>ws[i]?.getD .non) (.of hl) (aA (by lia)) n1 (λi x BT H1 R s1 hR=>?_) (λi x BT ht H1 T' s1 Fc=>?_) (λH1 s1 ld=>?_)
  .obtain⟨t,ht,a,p,rfl,ha,q,xs,hp,hq,hx⟩:=hT.get BT;have ot:=Cl t (mem_of_getElem? ht);have o90:=ot.1;rw[ht] at hR;fail "r";refine⟨_,_,.inr (.of (s1 _ _ ha)),a0 (j:=1) rfl,?_⟩;exact⟨t.2.1,xs,p,q,pw,ps,t.2.2,r,e,ss,rfl,.of (s1 _ _ hp),s1 _ _ hq,(hx.mono s1.toT).all,by lia,(λc hc=>by have:=(ot.2 c hc).1.ends;exact⟨by lia,by lia⟩),.of (s1 _ _ Fa),.of (s1 _ _ Fb),EZ,EY,λH2 s2=>⟨_,rfl,hR H2 s2⟩⟩
  .rw[BT] at Fc;fail "r";exact Fc H1 (Same.refl _)
  .exact⟨s1,l1,_,rfl,ld,(hT.mono s1.toT).pick⟩
 rintro Z H1 ⟨s1,l1,us,rfl,ld,hU⟩;have EX:=hU.length;fail "r";refine⟨_,.inl (.of ld),ite2 (λh0=>k0 ?_ H1 s1) (λh0=>?_)⟩
 .exact List.eq_nil_of_length_eq_zero (by lia)
 cases hF:T.filter (fitR r e ss) with
 |nil=>rw[hF] at EX;exact absurd (by rw[EX];rfl) h0
 |cons b L=>
  rw[hF] at hU EX;have dl:∀t∈b::L,t∈T/\fitR r e ss t=true:=λt ht=>mem_filter.mp (by rw[hF];exact ht);have Fh:L.length<=90:=by have:=length_filter_le (fitR r e ss) T;rw[hF,length_cons] at this;lia
  refine⟨l1,b,L,us,rfl,ld,hU,λt ht=>Cl t (dl t ht).1,Fh,λv H2 s2 hv=>?_⟩;obtain⟨a,p,rfl,ha,q,xs,hp,hq,hx⟩:=hv;have hm:=dl _ (iB (mr:=mrR) L b);have om:=Cl _ hm.1;have o90:=om.1;have mt:=s1.trans s2;fail "r";refine⟨_,_,.inr (.of ha),a0 (j:=0) rfl,_,_,.inr (.of ha),a0 (j:=1) rfl,?_⟩;refine⟨_,xs,p,q,pw,ps,_,r,e,ss,rfl,.of hp,hq,hx.all,by lia,(λc hc=>by have:=(om.2 c hc).1.ends;exact⟨by lia,by lia⟩),.of (mt _ _ Fa),mt _ _ Fb,EZ,EY,(λz=>by have hz:=hm.2;unfold fitR at hz;rw[hz] at z;cases z),λ_ l' ys H3 Fe _ s3 Fg hB=>⟨by decide,λp4 H4 n4 s4 Ff=>k b L hF p4 l' ys H4 (eC mt Fe) ((mt.trans s3).trans s4) Ff (s4 _ _ Fg) (hB.mono s4)⟩⟩
theorem EI:g.Do.Ok P w base 6 (sp_taken_house K g.aH):=by
 refine lnF rg ?_;rintro EZ A mt s H vs Q E hr ⟨p,t,w',r,i,o,rfl,dl,hi,hl,ld,hd,hw,BT,hh,k⟩
 nomatch (a9 (aS (aj (aW (ac (pv 0) g.aI g.ax (b9 g) (hr.mono (by decide)) g.aw .nil pass0 (a8 aO aB))))
    (by fail "D") aT)
   (aD (aQ (ag (sF g) (hr.mono (by decide)) rfl g.ik g.fA.kp g.pN .nil pass0 (a8 (pv 0) (a8 aO (a8 (by fail "D") aB))))))),rg.nd,g.oh
 have e1:ofString "//"=⟨[47,47].toArray⟩:=by fail "k"
 rw[e1];fail "r";cases o with
 |none=>have hw:w'=[]:=hw;subst hw;refine aL dl (j8 dl hi hl (by rw[hd];exact hh rfl) ⟨_,rfl,?_⟩);rw[if_pos rfl];exact k H (SameBut.refl _ _) dl
 |some s=>obtain⟨v,rfl,hv,EW,Cl⟩:=hw;refine aL dl (ay (w:=[47,47]) (r:=v++r) dl hi hl hd λH1 s1 c1 EX EY=>⟨_,rfl,?_⟩);rw[if_neg (by decide)];refine⟨p,t,[],s,v,r,_,some 60,rfl,c1,EX,hl,ld,by decide,EY,hv,EW,.inl (BT (by simp)),(λm z=>by cases z;exact Cl),λH2 s2 c2=>k H2 (s1.trans s2) ?_⟩;rw[length_cons,length_cons,show i+(v.length+1+1)=i+[47,47].length+v.length by simp only[length_cons,length_nil];lia];exact c2
theorem EJ:g.Dp.Ok P w base 6 (sp_taken_question K g.aH):=by
 refine lnF fJ ?_;rintro Fz A Fo s H vs Q E hr ⟨p,t,w',rest,i,qs,rfl,dl,hi,hl,ld,hd,hw,Fa,k⟩
 nomatch (a9 (aS (aj (aW (ac (pv 0) g.aI g.ax (b9 g) (hr.mono (by decide)) g.aw .nil pass0 (a8 aO aB))))
    (by fail "D") aT)
   (a9 (sx 1 fJ.nd (ag (dvs:=[.non]) (bx g) (hr.mono (by decide)) rfl g.bd g.bQ.kp g.bu (.cons rfl .nil) pass0 (a8 (pv 0) (a8 (by fail "D") aB))))
   (aP (by fail "D")
   (aP (by fail "D")
   (a9 (cC PassesOwn.never (aW (ac (pv 0) g.aI g.ax (b9 g) (hr.mono (by decide)) g.aw .nil pass0 (a8 aO aB)))
   (a9 (sx 1 fJ.nd (ag (dvs:=[.non]) (sF g) (hr.mono (by decide)) rfl g.ik g.fA.kp g.pM (.cons rfl .nil) pass0 (a8 (pv 0) (a8 (by fail "D") aB))))
   (aD (by fail "D"))))
   (aD (by fail "D"))))))),fJ.nd,EB,hint 2 0,g.av,g.iX
 have eF:iQ=.str ⟨frQ.toArray⟩:=by show V.str (ofString _)=_;unfold frQ;simp
 have e1:ofString "?"=⟨[63].toArray⟩:=by fail "k"
 have e2:ofString "&"=⟨[38].toArray⟩:=by fail "k"
 rw[eF,e1,e2];have rl:∀{EZ:Nat}{v'':Tq},t.drop EZ=v''++rest->EZ<=t.length->EZ+v''.length=t.length - rest.length:=λ{EZ v''} h hj=>by have:=congrArg List.length h;rw[length_drop,length_append] at this;lia
 have EW:rest.head?≠some 63/\rest.head?≠some 38:=by
  rcases Fa with rfl|⟨x,rfl⟩
  .exact⟨by simp,by simp⟩
  .exact⟨by simp,by simp⟩
 fail "r";cases qs with
 |none=>have hw:w'=[]:=hw;subst hw;refine aL dl (be dl hi hl hd EW.1 ⟨_,rfl,?_⟩);rw[if_pos rfl];have:=rl hd hi;exact k _ H (SameBut.refl _ _) (this▸dl) .non
 |some ps=>
  cases ps with
  |nil=>have hw:w'=[63]:=hw;subst hw;refine aL dl (ay (w:=[63]) (r:=rest) dl hi hl hd λH1 s1 c1 Fe BT=>⟨_,rfl,?_⟩);rw[if_neg (by decide)];refine⟨p,t,frQ,[],[],rest,_,none,rfl,c1,Fe,hl,ld,dj,BT,.nil,.inl (gR .nil Fa).1,(λm z=>by cases z),λH2 s2 c2=>?_⟩;refine⟨λ_ _=>False,?_,λ_ _ z=>z.elim⟩;rw[L2.aF,decide_eq_true rfl];refine⟨_,rfl,?_⟩;rw[if_pos rfl];have:=rl (v'':=[]) BT Fe;exact⟨by decide,λpt Ha n1 sa EX=>k _ Ha ((s1.trans s2).trans sa.but) (this▸c2.same sa) (.tup EX .nil)⟩
  |cons pr ps=>
   obtain⟨n,o⟩:=pr;obtain⟨a,v,r,rfl,ha,hn,hv,Fh⟩:=hw;have Fp:=gR Fh Fa;refine aL dl (ay (w:=[63]) (r:=a++(v++(r++rest))) dl hi hl (by rw[hd];simp) λH1 s1 c1 Fe BT=>⟨_,rfl,?_⟩);rw[if_neg (by decide)];refine⟨p,t,frQ,n,a,v++(r++rest),_,none,rfl,c1,Fe,hl,ld,dj,BT,ha,.inl (lN hv Fp.1),(λm z=>by cases z),λH2 s2 c2=>?_⟩;refine⟨λZ H'=>H'=H2/\Z=[some (.ref p),some (.str ⟨n.toArray⟩),none],?_,?_⟩
   .rw[L2.aF];refine⟨_,rfl,?_⟩;rw[if_neg (by rw[decide_eq_false (λz=>hn (bF.mp z))];decide)];exact⟨rfl,rfl⟩
   rintro Z H' ⟨rfl,rfl⟩;have Fv:i+[63].length+a.length<=t.length:=by have:=congrArg List.length BT;rw[length_drop,length_append] at this;lia
   have Fl:t.drop (i+[63].length+a.length)=v++(r++rest):=by rw[<- drop_drop,BT,drop_left]
   have Fx:=s1.trans s2;fail "r";obtain⟨W,hW⟩:∃W:Nat->St->Hp->Prop,W=λm Z H4=>Ex7 λ(dn EY:List (Tq×Option Tq)) (r':Tq) (j:Nat) (q:Addr) (v1:Option V) (vs:List V)=>m=EY.length/\Z=[some (.ref p),v1,some (.ref q)]/\(n,o)::ps=dn++EY/\PrsW EY r'/\Cur H4 g.aH p t j/\j<=t.length/\t.drop j=r'++rest/\H4 q=some (.lst vs)/\PrL H4 vs dn/\SameBut p H H4/\H q=none/\q≠p:=⟨_,rfl⟩;refine⟨λZ H4=>∃m,W m Z H4,?_,?_⟩
   .refine⟨p,t,v,r++rest,_,o,rfl,c2,Fv,hl,ld,Fl,hv,Fp.1,Fp.2,λH3 s3 c3=>⟨by decide,λp1 Ha n1 sa EX=>⟨by decide,λq Hb nq sb hq=>⟨ps.length,?_⟩⟩⟩⟩;rw[hW];have mt:q≠p:=by obtain⟨dx,hp⟩:=c3.same sa;exact (aJ hp nq).symm
    have Fm:SameBut p H Ha:=(Fx.trans s3).trans sa.but;refine⟨[(n,o)],ps,r,_,q,_,_,rfl,rfl,rfl,Fh,(c3.same sa).same sb,?_,?_,hq,⟨rfl,λi' a' y z1 z2=>?_⟩,Fm.trans sb.but,Fm.free nq mt,mt⟩
    .have:=congrArg List.length Fl;rw[length_drop,length_append] at this;lia
    .rw[<- drop_drop,Fl,drop_left]
    .cases i' with
     |zero=>cases z1;cases z2;exact .tup (sb _ _ EX) (.cons (.str _) (.cons (dS _) .nil))
     |succ j=>cases z1
   rintro Z H4 ⟨m,hm⟩;unfold L2.Later;rw[L2.ff];refine cN W m hm ?_;rintro m Z H5 hm;rw[hW] at hm;obtain⟨dn,EY,r',j,q,v1,vs,rfl,rfl,Ff,Fg,c5,Fi,Fk,Fb,Fc,Fn,Fq,mt⟩:=hm;have Fw:dn.length<=100000:=by have h1:=congrArg List.length Ff;rw[length_append,length_cons] at h1;have h2:=zP Fh;have h3:=congrArg List.length hd;rw[length_drop] at h3;simp only[length_cons,length_append] at h3;lia
   fail "r";cases Fg with
   |nil=>refine aL c5 (be c5 Fi hl Fk EW.2 ⟨_,rfl,?_⟩);rw[if_neg (by decide)];rw[append_nil] at Ff;refine⟨vs,.inl (.of Fb),λl Ha sa Ft=>?_⟩;have:=rl (v'':=[]) Fk Fi;refine k _ Ha (Fn.trans sa.but) (this▸c5.same sa) ?_;rw[Ff];exact .tup Ft (lO (g:=pD) Fc.1 λi' a' y z1 z2=>(Fc.2 i' a' y z1 z2).mono sa.toT)
   |cons hwn hne hv2 hps2=>
    rename_i n2 w2 v2 o2 ps2 r2;have Cl:=gR hps2 Fa;refine aL c5 (ay (w:=[38]) (r:=w2++(v2++(r2++rest))) c5 Fi hl (by rw[Fk];simp) λH6 s6 c6 Fu Fj=>⟨_,rfl,?_⟩);rw[if_pos rfl];have Fr:t.drop (j+[38].length+w2.length)=v2++(r2++rest):=by rw[<- drop_drop,Fj,drop_left]
    have Fy:=congrArg List.length Fj;rw[length_drop,length_append,length_append] at Fy;refine⟨_,λ_ _ h=>h,p,t,frQ,n2,w2,v2++(r2++rest),_,none,rfl,c6,Fu,hl,ld,dj,Fj,hwn,hne,.inl (lN hv2 Cl.1),(λm z=>by cases z),λH7 s7 c7=>⟨⟨_,.of ((s6.trans s7) _ _ mt Fb)⟩,p,t,v2,r2++rest,_,o2,rfl,c7,by lia,hl,ld,Fr,hv2,Cl.1,Cl.2,λH8 s8 c8=>⟨by decide,λp1 Ha n1 sa EX=>⟨vs,sa _ _ (((s6.trans s7).trans s8) _ _ mt Fb),?_,ps2.length,Nat.lt_succ_self _,?_⟩⟩⟩⟩
    .rw[Fc.1];exact Nat.lt_of_le_of_lt Fw (by decide)
    rw[hW];have Fs:Ha q=some (.lst vs):=sa _ _ (((s6.trans s7).trans s8) _ _ mt Fb);refine⟨dn++[(n2,o2)],ps2,r2,j+[38].length+w2.length+v2.length,q,_,_,rfl,rfl,by rw[Ff,append_assoc];rfl,hps2,?_,?_,?_,aC,?_,?_,Fq,mt⟩
    .obtain⟨dx,hp⟩:=c8.same sa;exact⟨dx,by rw[aE mt.symm];exact hp⟩
    .lia
    .rw[<- drop_drop,Fr,drop_left]
    .refine PrL.mono (PrL.snoc ((((Fc.mono (c5.toT s6)).mono (c6.toT s7)).mono (c7.toT s8)).mono sa.toT) ?_) (bD Fs);exact .tup EX (.cons (.str _) (.cons (dS _) .nil))
    .exact ((((Fn.trans s6).trans s7).trans s8).trans sa.but).upd Fq
theorem EK:g.Dq.Ok P w base 6 (sp__law_table K):=by
 refine lnF j4 ?_;rintro FK A Fx s H vs Q E hr ⟨a,pn,pl,ns,nm,lb,m,rfl,hS,Fy,FG,Fz,F5,FJ,F8,hm,k⟩
 nomatch (a9 (by fail "D")
   (a9 (bC PassesOwn.never rfl (dB rfl g.cg.1 (a8 (pv 4) aB)) (pgn 6 j4.nd)
   (a9 (by fail "D")
   (aP (by fail "D")
   (aP (by fail "D")
   (aP (aS (by fail "D")
    (a9 (by fail "D")
   (a9 (by fail "D")
   (aD (aS (PW.pt (bf (by fail "D") (bz (ptm dD (by fail "D") aO))))
    (by fail "D") aT)))) aT)
   (aD (by fail "D")))))))
   (aD (by fail "D")))),j4.nd,ED,rq,hint 2 0,hint 7 0,g.aK,hint 3 0
 fail "r";refine⟨by decide,λl H1 n1 s1 hl=>⟨by lia,by lia,?_⟩⟩;rw[Int.toNat_natCast];refine cK (λi Z H'=>Same H H'/\Ex8 λ(T:List Rw) (ws:List V) (v6 v7 v8 v9 Fn Fm:Option V)=>Z=[some (.ref a),some (.ref pn),some (.ref pl),some (.int 3),some (.int (m:Int)),some (.ref l),v6,v7,v8,v9,Fn,Fm]/\H' l=some (.lst ws)/\TbV H' T ws/\TabOk T/\T.length=i/\(∀t∈T,NmP nm t.2.1)/\T.map (·.1)=lb.take i/\(∀t∈T,t.2.1=[]->t.2.2=true)) ⟨s1,[],[],none,none,none,none,none,none,rfl,hl,.nil,(show TabOk [] from λt ht=>by cases ht),rfl,(λt ht=>by cases ht),rfl,(λt ht=>by cases ht)⟩ ?_ ?_;rotate_left
 .rintro Z H2 ⟨s2,T,ws,v6,v7,v8,v9,Fn,Fm,rfl,EY,hT,Fe,Fq,Fi,Fr,Fl⟩;fail "r";exact k T ws l H2 n1 s2 EY hT Fe Fq Fi Fr Fl
 rintro i Z H2 hi ⟨s2,T,ws,v6,v7,v8,v9,Fn,Fm,rfl,EY,hT,Fe,Fq,Fi,Fr,Fl⟩;have FF:=hT.length;fail "r";refine⟨a,ns,3+i,by rw[show (3:Int)+(0+(i:Int))=((3+i:Nat):Int) by lia],s2.seq hS,?_⟩;generalize ns.getD (3+i) 0=c;fail "r";refine⟨TabC H2 a pn pl l m i nm c,⟨⟨by decide,by decide⟩,c / 4,pn,nm,rfl,s2 _ _ Fy,by lia,by lia,Fz,λps e p H3 h1 h2 h9 h3 he s3 h4=>?_⟩,?_⟩
 .exact⟨s3,ps,e,p,_,_,_,rfl,h4,⟨by lia,h1⟩,h2,h3,h9,he⟩
 have Fw:∀{H3:Hp},Same H2 H3->(0:Int) < (ws.length:Int)->∀z:Int,∃(v:V) (t:Rw),atI ws (z % (ws.length:Int))=some v/\RwAt H3 t v/\t∈T:=λ{H3} s3 h0 z=>by
  obtain⟨j,hj,ej⟩:∃j:Nat,j < ws.length/\z % (ws.length:Int)=(j:Int):=by have h1:=Int.emod_nonneg z (show (ws.length:Int)≠0 by lia);have h2:=Int.emod_lt_of_pos z h0;exact⟨(z % (ws.length:Int)).toNat,by lia,by lia⟩
  obtain⟨w,hw⟩:∃w,ws[j]?=some w:=⟨_,List.getElem?_eq_getElem hj⟩;obtain⟨t,ht,hr⟩:=hT.get hw;exact⟨w,t,by rw[ej];exact a0 hw,hr.mono s3.toT,mem_of_getElem? ht⟩
 have EZ:∀{H3:Hp}{p5:Addr},Same H2 H3->H3 p5=some (.lst [])->∀R:VK,((0:Int) < (ws.length:Int)->R (.bl true) H3)->R (.bl false) H3->rNeD (.ref l) (.ref p5) H3 R:=λ{H3 p5} s3 e5 R r1 r2=>by
  refine⟨.list (T.map rwD),.list [],.lst (s3 _ _ EY) (hT.mono s3.toT).isAll,.lst e5 .nil,cb Fe,by fail "k",?_⟩;rw[de,isEmpty_map];cases T with
  |nil=>exact r2
  |cons t T=>exact r1 (by rw[FF,length_cons];lia)
 rintro Z H3 ⟨s3,cs,e,p,w9,Fk,Fj,rfl,ld,Cl,BT,EW,mt,EX⟩;fail "r";refine⟨TabC H2 a pn pl l m i nm c,⟨by decide,ite2 (λ_=>⟨by decide,λp5 H5 n5 s5 e5=>?_⟩) (λ_=>?_)⟩,?_⟩
 .have dl:=s3.trans s5;refine EZ dl e5 _ (λh0=>⟨_,rfl,ite2 (λ_=>⟨⟨by decide,by decide⟩,_,.inl (.of (dl _ _ EY)),h0,?_⟩) (λz=>absurd rfl z)⟩) ⟨_,rfl,ite2 (λz=>by cases z) (λ_=>⟨dl,cs,e,p,_,_,_,rfl,ld.mono s5.toT,Cl,BT,EW,mt,EX⟩)⟩;obtain⟨v,t,hv,⟨a',p',rfl,Fp,Fa⟩,Fc⟩:=Fw dl h0 (c / 4);obtain⟨t1,t2,t3,t4⟩:=Fe t Fc;refine⟨_,_,.inl (.of (dl _ _ EY)),hv,?_⟩;fail "r";refine⟨_,_,.inr (.of Fp),a0 (j:=1) rfl,?_⟩;exact⟨dl,t.2.1,t.2.2,p',_,_,_,rfl,Fa,t2,t3,t4,Fi t Fc,Fl t Fc⟩
 .exact⟨s3,cs,e,p,_,_,_,rfl,ld,Cl,BT,EW,mt,EX⟩
 clear ld Cl BT EW mt EX s3 cs e p w9 Fk Fj H3;rintro Z H3 ⟨s3,cs,e,p,w9,Fk,Fj,rfl,ld,Cl,BT,EW,mt,EX⟩;fail "r";refine⟨TabC H2 a pn pl l m i nm c,⟨by decide,ite2 (λ_=>⟨by decide,λp5 H5 n5 s5 e5=>?_⟩) (λ_=>?_)⟩,?_⟩
 .have dl:=s3.trans s5;refine EZ dl e5 _ (λh0=>⟨_,rfl,ite2 (λ_=>⟨⟨by decide,by decide⟩,_,.inl (.of (dl _ _ EY)),h0,?_⟩) (λz=>absurd rfl z)⟩) ⟨_,rfl,ite2 (λz=>by cases z) (λ_=>⟨dl,cs,e,p,_,_,_,rfl,ld.mono s5.toT,Cl,BT,EW,mt,EX⟩)⟩;obtain⟨v,t,hv,⟨a',p',rfl,Fp,Fa⟩,Fc⟩:=Fw dl h0 (c / 4);obtain⟨t1,t2,t3,t4⟩:=Fe t Fc;obtain⟨q',xs,F7,Fg,hx⟩:=Fa;have hxl:=hx.length;refine⟨_,_,.inl (.of (dl _ _ EY)),hv,?_⟩;fail "r";refine⟨_,_,.inr (.of Fp),a0 (j:=1) rfl,p',_,rfl,.of F7,rfl,_,_,rfl,_,_,rfl,rfl,?_⟩;fail "r";obtain⟨mm,FH,em⟩:∃mm:Nat,mm<=xs.length/\c / 64 % ((xs.length:Int)+1)=(mm:Int):=by
   have h1:=Int.emod_nonneg (c / 64) (show (xs.length:Int)+1≠0 by lia);have h2:=Int.emod_lt_of_pos (c / 64) (show 0 < (xs.length:Int)+1 by lia);exact⟨(c / 64 % ((xs.length:Int)+1)).toNat,by lia,by lia⟩
  refine⟨⟨by decide,by decide⟩,_,.inr (.of Fg),by lia,_,.inr (.of Fg),?_⟩;rw[em];have Ff:∀y9 Ft Fs:Option V,TabC H2 a pn pl l m i nm c [some (.ref a),some (.ref pn),some (.ref pl),some (.int 3),some (.int (m:Int)),some (.ref l),some (.int (0+(i:Int))),some (.int c),some (.ref p),y9,Ft,Fs] H5:=λy9 Ft Fs=>by exact⟨dl,cs,e,p,_,_,_,rfl,ld.mono s5.toT,Cl,BT,EW,mt,EX⟩
  refine ite2 (λFI=>?_) (λ_=>Ff _ _ _);have Fh:mm < t.2.1.length:=by lia
  obtain⟨w,hw⟩:∃w,xs[mm]?=some w:=⟨_,List.getElem?_eq_getElem (by lia)⟩;obtain⟨d,pd,hd,rfl,F6⟩:=hx.get hw;refine⟨_,_,.inr (.of Fg),a0 hw,?_⟩;fail "r";refine⟨_,_,.inr (.of F6),d.at0,cJ.mpr ⟨_,rfl,?_⟩⟩;refine ite2 (λ_=>?_) (λ_=>Ff _ _ _);obtain⟨nn,Fb⟩:∃nn,nm[mm]?=some nn:=⟨_,List.getElem?_eq_getElem (by lia)⟩;have u5:=s2.trans dl;refine⟨_,Fg,λp6 H6 s6 e6=>⟨_,_,.inl (.of ((u5.trans s6) _ _ Fy)),a0 (by rw[List.getElem?_map,Fb];rfl),by decide,λp7 H7 n7 s7 e7=>⟨by decide,λp8 H8 n8 s8 e8=>?_⟩⟩⟩;rw[cX] at e6;refine .inr ⟨_,_,(s7.trans s8) _ _ e6,e8,aA (by rw[length_take];simp only[length_cons,length_nil];lia),λp9 H9 s9 e9=>⟨_,(((s6.trans s7).trans s8).trans s9) _ _ Fg,λFD H10 Fv F0=>?_⟩⟩;rw[show ((mm:Int)+1)=((mm+1:Nat):Int) by lia,cV] at F0;refine .inr ⟨_,_,Fv _ _ e9,F0,aA (by rw[length_append,length_take,length_drop];simp only[length_cons,length_nil];lia),λF4 H11 F2 FB=>⟨by decide,λF3 H12 FE Fu FA=>?_⟩⟩;have u7:=(s8.trans s9).trans ((Fv.trans F2).trans Fu);have F1:=(s6.trans s7).trans u7;have Fo:=hx.mono F1.toT;have FC:H12 p7=some (.tup (Pc.gap nn).vals):=u7 _ _ e7;refine⟨dl.trans F1,t.2.1.take mm++[.gap nn]++t.2.1.drop (mm+1),t.2.2,F3,_,_,_,rfl,⟨F4,_,FA,Fu _ _ FB,PcT.append (Fo.drop (mm+1)) (PcT.append (.cons FC .nil) (Fo.take mm))⟩,⟨?_,λz hz=>?_⟩,C7 Fh t3,?_,(Fi t Fc).put Fh Fb,λz=>(by have:=congrArg List.length z;simp at this)⟩
  .rw[length_append,length_append,length_take,length_drop,length_singleton];lia
  .rcases mem_append.mp hz with z1|z1
   .rcases mem_append.mp z1 with z2|z2
    .exact t2.2 z (mem_of_mem_take z2)
    .rw[mem_singleton.mp z2];exact⟨trivial,gt trivial (Fz nn (mem_of_getElem? Fb))⟩
   .exact t2.2 z (mem_of_mem_drop z1)
  .rw[length_append,length_append,length_take,length_drop,length_singleton];lia
 .exact⟨s3,cs,e,p,_,_,_,rfl,ld,Cl,BT,EW,mt,EX⟩
 clear ld Cl BT EW mt EX s3 cs e p w9 Fk Fj H3;rintro Z H3 ⟨s3,cs,e,p,w9,Fk,Fj,rfl,ld,Cl,BT,EW,mt,EX⟩;fail "r";obtain⟨nn,Fb⟩:∃nn,lb[i]?=some nn:=⟨_,List.getElem?_eq_getElem (by lia)⟩;refine⟨⟨_,.of (s3 _ _ EY)⟩,_,_,.inl (.of ((s2.trans s3) _ _ F5)),by rw[Int.zero_add];exact a0 (by rw[List.getElem?_map,Fb];rfl),by decide,λp4 H4 n4 s4 e4=>?_⟩;have F9:=(s3.trans s4) _ _ EY;have sT:=bD (ys:=ws++[.ref p4]) F9;refine⟨ws,F9,Nat.lt_of_le_of_lt (show ws.length<=16 by lia) (by decide),bL n1 (s2.trans (s3.trans s4)),T++[(nn,cs,e)],ws++[.ref p4],_,_,_,_,_,_,⟨rfl,rfl,rfl,rfl,rfl,rfl⟩,aC,TbV.append (.cons ⟨p4,p,rfl,sT _ _ e4,(ld.mono s4.toT).mono sT⟩ .nil) ((hT.mono (s3.trans s4).toT).mono sT),λt ht=>?_,by rw[length_append,length_singleton,Fq],λt ht=>?_,by rw[map_append,Fr,take_add_one,Fb];rfl,λt ht=>?_⟩
 .rcases mem_append.mp ht with z|z
  .exact Fe t z
  .rw[mem_singleton.mp z];exact⟨F8 nn (mem_of_getElem? Fb),Cl,BT,EW⟩
 .rcases mem_append.mp ht with z|z
  .exact Fi t z
  .rw[mem_singleton.mp z];exact mt
 .rcases mem_append.mp ht with z|z
  .exact Fl t z
  .rw[mem_singleton.mp z];exact EX
theorem EL:g.Dr.Ok P w base 7 (sp_read_pattern K):=by
 refine lnF fK ?_;rintro EY A ld s H vs Q E hr ⟨cs,e,ws,rfl,hw,hc,hG,k⟩
 nomatch (a9 (aS (PW.pt (bg (by fail "D") (c9 (aj (aW (aZ (K:=K) rfl PySem.F.plainAttrs_str PySem.F.slot_str_startswith PySem.F.type_str_startswith lh (pv 0) (a8 aO aB)))))))
    (by fail "D") aT)
   (a9 (sx 1 fK.nd (aZ (K:=K) rfl PySem.F.plainAttrs_str PySem.F.slot_str_split PySem.F.type_str_split B9 (jh (k6 (K:=K) rfl) (pv 0) (fX aV) dI) (a8 aO aB)))
   (a9 (by fail "D")
   (a9 (sx 3 fK.nd (bU (kB (K:=K) rfl) rfl g.av.1 vI (a8 (cmp1 [] [] (cM (K:=K) rfl (by fail "D")) al (aY g.oK (EG g) hr rfl (a8 (pv 0) aB))) aB)))
   (a9 (by fail "D")
   (aD (by fail "D"))))))),fK.nd,EF,hint 2 0,hint 1 185,hint 4 0,g.b8,g.au,hint 1 180
 have b1:ofString "/"=⟨[47].toArray⟩:=by fail "k"
 obtain⟨a1,hf,h0⟩:=BQ hw hG.2.2.2.2;have EX:=hw.length;have hl:=hG.2.2.2.1;rw[b1,a1];fail "r";have hj:(joinT 47 (ws++if e then [[]] else [])).length<=13 * 701:=Nat.le_trans (nR 47 700 (ws:=ws++if e then [[]] else []) λt ht=>by
  rcases mem_append.mp ht with z|z
  .exact hc t z
  .cases e with
   |false=>cases z
   |true=>rw[mem_singleton.mp z];exact Nat.zero_le _).1 (Nat.mul_le_mul_right _ (by rw[length_append];cases e <;> simp <;> lia))
 refine ite2 (λz=>absurd rfl z) (λ_=>⟨aA (by lia),by lia,λpt nt=>?_⟩);rw[show Txt.split ⟨(joinT 47 (ws++if e then [[]] else [])).toArray⟩ ⟨#[47]⟩=_ from BN hf h0,map_map];generalize hH:upd H pt _=H1;have s1:Same H H1:=hH▸aN nt;have dl:SqL K H1 pt ((ws++if e then [[]] else []).map tV):=hH▸.of aC;have F:∀(pa:Addr) (H2:Hp),Same H H2->SqL K H2 pa (ws.map tV)->∀p,H2 p=none->∀Zb:VK,(∀(pl:Addr) (ys:List V) (H3:Hp),Same H H3->H3 pl=some (.lst ys)->IsTAll H3 (cs.map pcD) ys->Zb (.ref pl) H3)->CompI (Itl K pa) p [] tYes (tCall (sp_read_piece K) [] E0 (tCons (tVar 0) tNil)) Zb H2:=λpa H2 s2 h2 p np Zb hZ=>by refine BW (g:=pcD) h2 (aA (by rw[length_map];lia)) np (by rw[length_map,EX]) (λi x c hx hd H3 T s3 hT=>?_) (λys H3 s3 hA e3=>hZ p ys H3 (s2.trans s3) e3 hA);rw[List.getElem?_map] at hx;obtain⟨t,ht,rfl⟩:=Option.map_eq_some_iff.mp hx;obtain⟨c',EW,BT⟩:=hw.get ht;cases hd.symm.trans EW;fail "r";exact⟨c,t,rfl,BT,by have:=hc t (mem_of_getElem? ht);lia,hT⟩
 obtain⟨tl,Cl,eE⟩:∃tl,(ws++if e then [[]] else []).getLast?=some tl/\decide (mkS tl=⟨#[]⟩)=e:=by
  cases e with
  |true=>exact⟨[],by simp,decide_eq_true rfl⟩
  |false=>rw[if_neg (by decide),append_nil] at h0 ⊢;obtain⟨c,_,h⟩:=hw.get (i:=ws.length - 1) (by rw[<- List.getLast?_eq_getElem?];exact List.getLast?_eq_some_getLast h0);exact⟨_,List.getLast?_eq_some_getLast h0,decide_eq_false λz=>(nP h).1 (bF.mp z)⟩
 refine⟨_,_,.inl dl,l8 tV Cl,aF.mpr ⟨_,rfl,?_⟩⟩;rw[eE];have T:∀(pl:Addr) (ys:List V) (H3:Hp),Same H H3->H3 pl=some (.lst ys)->IsTAll H3 (cs.map pcD) ys->rTupleS K [.ref pl] H3 λx H1=>2<=sizeLine/\∀(p:Addr) (H':Hp),H1 p=none->Same H1 H'->H' p=some (HO.tup [x,V.bl e])->sp_is_pattern K [V.ref p] H' (λmt H'=>∃k,mt=V.bl k/\if k=false then False else 2<=sizeLine/\∀(p:Addr) (H'_1:Hp),H' p=none->Same H' H'_1->H'_1 p=some (HO.tup [x,V.bl e])->Q (V.ref p) H'_1) E0:=λpl ys H3 s3 e3 i3=>
  ⟨pl,ys,rfl,.inl (.of e3),λp4 H4 s4 e4=>⟨by decide,λp5 H5 n5 s5 e5=>⟨cs,e,_,rfl,.tup e5 (.cons (.tup (s5 _ _ e4) (i3.mono (s4.trans s5).toT)) (.cons (.bl _) .nil)),hG,λH6 s6=>⟨_,rfl,ite2 (λz=>by cases z) (λ_=>⟨by decide,λp7 H7 n7 s7 e7=>k _ _ (s3.trans (s4.trans (s5.trans (s6.trans s7)))) (.tup e7 (.cons (.tup ((s5.trans (s6.trans s7)) _ _ e4) (i3.mono (s4.trans (s5.trans (s6.trans s7))).toT)) (.cons (.bl _) .nil)))⟩)⟩⟩⟩⟩
 refine ite2 (λhe=>⟨_,dl,λp2 H2 n2 s2 e2=>?_⟩) (λhe=>?_)
 .rw[nN,if_pos he,map_append,map_cons,map_nil,List.dropLast_concat] at e2;exact⟨⟨_,.of e2⟩,λp np=>F p2 H2 (s1.trans s2) (.of e2) p np _ T⟩
 .rw[if_neg he,append_nil] at dl;exact⟨⟨_,dl⟩,λp np=>F pt H1 s1 dl p np _ T⟩
theorem sH:g.Ds.Ok P w base 7 (sp_filled K):=by
 refine lnF rh ?_;rintro Fl A Cl s H vs Q E hr ⟨cs,xs,p,q,pz,cl,ws,ys,sz,rfl,hp,hq,hx,hn,Fc,EY,hw,EX,EW,dl,k⟩
 exists rh.nd,Ej,EH,g.eR,hint 2 0,g.av,g.bP,hint 11 253
 fail "r";have Fk:=hx.length;have mt:fillF cs ws=.ok sz/\otherM cs ws=none:=by
  unfold fillM at dl;cases h1:fillF cs ws with
  |error n=>rw[h1] at dl;cases dl
  |ok ss=>
   rw[h1] at dl;cases h2:otherM cs ws with
   |some n=>rw[h2] at dl;cases dl
   |none=>rw[h2] at dl;cases dl;exact⟨rfl,rfl⟩
 refine⟨by decide,λp1 H1 n1 s1 Fi=>⟨_,_,.inr (s1.tup hp),rfl,q,rfl,⟨_,s1.tup hq⟩,?_⟩⟩;refine kA (xs:=xs) (λi Z H'=>SameBut p1 H H'/\Ex2 λ(v3:Option V) (ss:List Tq)=>Z=[some (.ref p),some (.ref pz),some (.ref p1),v3]/\fillF (cs.take i) ws=.ok ss/\H' p1=some (.lst (ss.map tV))/\ss.length<=i * 100000) ⟨Same.but s1,none,[],rfl,by rw[take_zero];rfl,Fi,Nat.zero_le _⟩ (λi Z H' _ h=>(h.1.same n1).tup hq) ?_ ?_
 .rintro i x Z H2 Fb ⟨sb,v3,ss,rfl,hf,ld,Fe⟩;obtain⟨c,pc,hc,rfl,hv⟩:=hx.get Fb;have s2:=sb.same n1;have hi:i < cs.length:=(List.getElem?_eq_some_iff.mp hc).1;obtain⟨Fa,EZ⟩:=Fc c (mem_of_getElem? hc);obtain⟨s',BT⟩:∃s',fillS c ws=.ok s':=by
   cases h:fillS c ws with
   |ok s'=>exact⟨s',rfl⟩
   |error n=>rw[mE hc hf h] at mt;cases mt.1
  fail "r";refine⟨⟨_,.of ld⟩,c,pc,pz,ws,ys,s',rfl,s2.tup hv,Fa,EZ,s2 _ _ EY,hw.mono s2,EX,EW,BT,λq2 H3 s3 Fg=>?_⟩;have hb:=Av BT EW;have Fj:i * 100000<=99 * 100000:=Nat.mul_le_mul_right _ (by lia);refine Ar.mpr ⟨_,_,s3 _ _ ld,Fg,?_,?_⟩
  .rw[length_map,length_map];exact Nat.le_trans (show ss.length+s'.length<=10000000 by lia) (by decide)
  .refine⟨(sb.trans s3.but).trans dP,_,ss++s',rfl,mD hc hf BT,by rw[aC,map_append],?_⟩;rw[length_append,Nat.add_mul];lia
 .rintro Z H2 ⟨sb,v3,ss,rfl,hf,ld,Fe⟩;have s2:=sb.same n1;rw[Fk,take_length,mt.1] at hf;cases hf;fail "r";refine⟨cs,xs,p,q,pz,cl,ws,ys,rfl,s2.tup hp,s2.tup hq,hx.mono s2,hn,s2 _ _ EY,hw.mono s2,EX,mt.2,λH3 s3=>?_⟩;refine⟨_,.inl (.of (s3 _ _ ld)),λqw H4 s4 Ff=>⟨_,_,.inr (((s2.trans s3).trans s4).tup hp),rfl,by decide,λpw H5 n5 s5 Fh=>?_⟩⟩;exact k pw qw H5 (((s2.trans s3).trans s4).trans s5) (s5 _ _ Ff) Fh
theorem EM:g.Dt.Ok P w base 7 (sp_read K):=by
 refine lnF j5 ?_;rintro Fi A EX s H vs Q E hr ⟨x,t,rfl,hl,dl,wf,hw,k⟩
 nomatch (a9 (by fail "D")
   (a9 (sx 1 j5.nd (u0 g.pS (DT g) (hr.mono (by decide)) rfl g.pR g.pB .nil pass0 (a8 (pv 0) aB)))
   (a9 (by fail "D")
   (a9 (by fail "D")
   (aP (by fail "D")
   (aP (by fail "D")
   (a9 (by fail "D")
   (a9 (by fail "D")
   (a9 (aS (aj (aW (bT (pv 1) g.aI g.ip (rp g) (hr.mono (by decide)) g.ij .nil pass0)))
    (by fail "D") aT)
   (aD (by fail "D"))))))))))),j5.nd,EC,EJ,EA,Ek,EI,Es,hint 2 0,hint 1 354,g.b8,g.au,hint 1 345
 obtain⟨hT,dT,wT,qT,mT,et,es,hH,hD,hS,hQ,hM⟩:=hw;fail "r";intro p dx hp Fe Fh;have EY:mT=[]\/∃y,mT=35::y:=by
  cases hm:x.mark with
  |none=>rw[hm] at hM;exact .inl hM
  |some s=>rw[hm] at hM;obtain⟨v,e,_⟩:=hM;exact .inr ⟨v,e⟩
 have Cl:qT++mT=[]\/(∃y,qT++mT=35::y)\/∃y,qT++mT=63::y:=by
  cases hq:x.quest with
  |none=>
   rw[hq] at hQ;have hQ:qT=[]:=hQ;rw[hQ];rcases EY with e|⟨y,e⟩
   .exact .inl e
   .exact .inr (.inl ⟨y,e⟩)
  |some ps=>
   rw[hq] at hQ;cases ps with
   |nil=>have hQ:qT=[63]:=hQ;exact .inr (.inr ⟨mT,by rw[hQ];rfl⟩)
   |cons a ps=>obtain⟨n,o⟩:=a;obtain⟨a,v,r,e,_⟩:=hQ;exact .inr (.inr ⟨_,by rw[e];rfl⟩)
 have Fc:SameBut p H (upd (upd H dx (.own p)) p (.ins g.aH dx [])):=λb o n e=>by rw[aE n,aE (aJ e Fe)];exact e
 refine⟨p,dx,t,rfl,aC,λH1 s1 c1=>⟨rfl,?_⟩⟩;have Ff:=Fc.trans s1;have tl:∀{a b:Tq},t=a++b->a.length<=t.length/\t.drop a.length=b:=λ{a b} e=>by rw[e,drop_left,length_append];exact⟨by lia,rfl⟩
 refine⟨p,t,rfl,c1,hl,λH2 s2 c2=>?_⟩;rw[es];have eP:schP t=(schT x.scheme).length:=by unfold schP;rw[es]
 rw[eP] at c2;obtain⟨i2,d2⟩:=tl et;have BT:x.house≠none->x.rooted=true:=λz=>wf.roo (.inr z);refine⟨p,t,hT,_,_,x.house,rfl,c2,i2,by lia,dl,d2,hH,?_,?_,λH3 s3 c3=>?_⟩
 .intro hn;rw[BT hn];refine λc hc=>?_;cases hdo:x.door with
  |none=>rw[hdo] at hD;have hD:dT=[]:=hD;rw[hD] at hc;cases hc;decide
  |some n=>rw[hdo] at hD;obtain⟨ds,rfl,_⟩:=hD;cases hc;decide
 .intro hn;cases hdo:x.door with
  |some n=>exact absurd hn (wf.doo n hdo).2
  |none=>
   rw[hdo] at hD;have hD:dT=[]:=hD;rw[hD,nil_append];have hr:(qT++mT).head?≠some 47:=λz=>by rcases Cl with e|⟨y,e⟩|⟨y,e⟩ <;> rw[e] at z <;> cases z
   have EW:=lM hS hr;cases hrt':x.rooted with
   |false=>
    intro z;simp only[Bool.false_eq_true,if_false,nil_append] at z;cases hh:wT++(qT++mT) with
    |nil=>rw[hh] at z;cases z
    |cons c r=>rw[hh] at z EW;exact EW (by injection z with z1 z2;rw[z1];rfl)
   |true=>
    intro z;simp only[if_true,cons_append,nil_append] at z;cases hh:wT++(qT++mT) with
    |nil=>rw[hh] at z;cases z
    |cons c r=>rw[hh] at z EW;refine EW ?_;injection z with z1 z2;injection z2 with z2 z3;rw[z2];rfl
 have Fb:=(Ff.trans s2).trans s3;obtain⟨i3,d3⟩:=tl (a:=schT x.scheme++hT) (b:=dT++((if x.rooted then [47] else [])++(wT++(qT++mT)))) (by rw[et];simp);rw[length_append] at i3 d3;refine⟨λZ H4=>SameBut p H H4/\Cur H4 g.aH p t ((schT x.scheme++(hT++dT)).length)/\Z=[some (.str ⟨t.toArray⟩),some (.ref p),some (.str ⟨x.scheme.toArray⟩),some (otV x.house),some (itV x.door),none,none,none],?_,?_⟩
 .cases hho:x.house with
  |none=>
   rw[if_pos (show otV none=V.non from rfl)];cases hdo:x.door with
   |some n=>exact absurd hho (wf.doo n hdo).2
   |none=>rw[hdo] at hD;have hD:dT=[]:=hD;refine⟨Fb,?_,rfl⟩;rw[hD,append_nil,length_append];exact c3
  |some l=>
   rw[if_neg (by simp[otV])];refine⟨p,t,dT,_,_,x.door,rfl,c3,i3,by lia,dl,d3,hD,?_,?_,λH4 s4 c4=>⟨Fb.trans s4,?_,rfl⟩⟩
   .rw[BT (by rw[hho];simp)];intro c hc;cases hc;decide
   .intro _;rw[BT (by rw[hho];simp)];simp
   .rw[length_append,length_append,<- Nat.add_assoc];exact c4
 rintro Z H4 ⟨Fa,c4,rfl⟩;obtain⟨i4,d4⟩:=tl (a:=schT x.scheme++(hT++dT)) (b:=(if x.rooted then [47] else [])++(wT++(qT++mT))) (by rw[et];simp);fail "r";have mt:∀ld:Bool,(ld=true->x.rooted=true)->∀(Q':VK),(∀u H5,SameBut p H H5->Cur H5 g.aH p t (t.length - (qT++mT).length)->IsT H5 x.way u->Q' u H5)->sp_taken_way K g.aH [V.ref p,V.bl ld] H4 Q' E0:=λld hm Q' hk=>by
  refine⟨p,t,wT,qT++mT,_,ld,x.rooted,x.steps,x.ends,rfl,c4,i4,by lia,dl,d4,hS,wf.end_,hm,?_,?_,λu H5 s5 c5 hu=>hk u H5 (Fa.trans s5) c5 hu⟩
  .rcases Cl with e|⟨y,e⟩|⟨y,e⟩ <;> rw[e]
   .exact gO
   .exact ba ⟨by decide,by fail "k",by decide⟩
   .exact ba ⟨by decide,by fail "k",by decide⟩
  .rcases Cl with e|⟨y,e⟩|⟨y,e⟩ <;> rw[e] <;> simp
 refine⟨λZ H5=>∃u,SameBut p H H5/\Cur H5 g.aH p t (t.length - (qT++mT).length)/\IsT H5 x.way u/\Z=[some (.str ⟨t.toArray⟩),some (.ref p),some (.str ⟨x.scheme.toArray⟩),some (otV x.house),some (itV x.door),some u,none,none],?_,?_⟩
 .refine ite2 (λz=>?_) (λz=>?_)
  .exact mt true (λ_=>wf.roo (.inl λe=>z (by rw[e]))) _ (λu H5 sb c hu=>⟨u,sb,c,hu,rfl⟩)
  .refine mt _ (λe=>BT λz'=>?_) _ (λu H5 sb c hu=>⟨u,sb,c,hu,rfl⟩);rw[z'] at e;exact absurd e (by simp[otV])
 rintro Z H5 ⟨u,EZ,c5,hu,rfl⟩;have Fg:t.length - (qT++mT).length+(qT++mT).length=t.length:=by have:=congrArg List.length et;simp only[length_append] at this ⊢;lia
 obtain⟨i5,d5⟩:=tl (a:=schT x.scheme++(hT++(dT++((if x.rooted then [47] else [])++wT)))) (b:=qT++mT) (by rw[et];simp);have e5:(schT x.scheme++(hT++(dT++((if x.rooted then [47] else [])++wT)))).length=t.length - (qT++mT).length:=by have:=congrArg List.length et;simp only[length_append] at this ⊢;lia
 rw[e5] at i5 d5;fail "r";refine⟨p,t,qT,mT,_,x.quest,rfl,c5,i5,by lia,dl,d5,hQ,EY,λuq H6 s6 c6 hq=>?_⟩;have e6:t.length - mT.length<=t.length:=by lia
 have d6:t.drop (t.length - mT.length)=mT:=by
  obtain⟨_,z⟩:=tl (a:=schT x.scheme++(hT++(dT++((if x.rooted then [47] else [])++(wT++qT))))) (b:=mT) (by rw[et];simp);have e7:(schT x.scheme++(hT++(dT++((if x.rooted then [47] else [])++(wT++qT))))).length=t.length - mT.length:=by have:=congrArg List.length et;simp only[length_append] at this ⊢;lia
  rw[e7] at z;exact z
 refine⟨p,t,mT,_,x.mark,rfl,c6,e6,by lia,dl,d6,hM,λH7 s7 c7=>?_⟩;refine aL c7 ⟨p,t,_,rfl,c7,by lia,_,rfl,?_⟩;rw[decide_eq_true rfl,if_neg (by decide)];refine⟨by decide,λpr H8 _ s8 h8=>k _ H8 (((((EZ.trans s6).trans s7).same hp).trans s8)) ?_⟩;exact adT h8 ((((hu.mono (c5.toT s6)).mono (c6.toT s7))).mono s8.toT) ((hq.mono (c6.toT s7)).mono s8.toT)
theorem sI:g.oM.Ok P w base 8 (sp_made K):=by
 refine lnF rj ?_;rintro EY A dl s H vs Q E hr ⟨l,lv,T,ws,n,wz,ys,t,ss,rfl,hl,hT,EW,EX,hV,mt,ld,ht,BT,k⟩
 exists rj.nd,DS,sH
 fail "r";refine⟨l,T,ws,n,t,rfl,hl,hT,ht,λp H1 s1 Cl=>?_⟩;obtain⟨q,xs,hp,hq,hx⟩:=Cl;have ot:=EW t (List.mem_of_find?_eq_some ht);have o90:=ot.1;exact⟨t.2.1,xs,p,q,lv,t.2.2,wz,ys,ss,rfl,.of hp,.of hq,hx.all,by lia,(λc hc=>by have:=(ot.2 c hc).1.ends;exact⟨by lia,by lia⟩),s1 _ _ EX,hV.mono s1,mt,ld,BT,λpw qw H2 s2 h1 h2=>k pw qw H2 (s1.trans s2) h1 h2⟩
theorem EN:g.oN.Ok P w base 8 (sp__law_read_table K):=by
 refine lnF fL ?_;rintro Fh A dl s H vs Q E hr ⟨l,lc,T,ws,is,rfl,hl,hT,Fb,Fg,EW,mt,Ff,k⟩
 nomatch (a9 (by fail "D")
   (a9 (bC PassesOwn.never rfl (gX (K:=K) rfl rfl g.br.1 (a8 (pv 0) aB)) (bo (n:=2) (K:=K) rfl rfl (af (pgn 3 fL.nd) (af (pgn 4 fL.nd) bS)))
   (by fail "D"))
   (aD (by fail "D")))),fL.nd,EL,Ev,hint 2 0,hint 4 0
 fail "r";have ld:=hT.length;refine⟨by decide,λp1 H1 n1 s1 EZ=>⟨l,ws,rfl,.of (s1 _ _ hl),?_⟩⟩;refine gY (xs:=ws) (λi Z H'=>SameBut p1 H H'/\Ex4 λ(us:List V) (v3 v4 v5:Option V)=>Z=[some (.ref l),some (.ref lc),some (.ref p1),v3,v4,v5]/\H' p1=some (.lst us)/\TbV H' (T.take i) us) ⟨s1.but,[],none,none,none,rfl,EZ,.nil⟩ (λi Z H' _ h=>.of ((h.1.same n1) _ _ hl)) ?_ ?_;rotate_left
 .rintro Z H2 ⟨sb,us,v3,v4,v5,rfl,h2,hU⟩;fail "r";rw[ld,take_length] at hU;exact k us p1 H2 (sb.same n1) h2 hU
 rintro i v Z H2 Tt hv ⟨sb,us,v3,v4,v5,rfl,h2,hU⟩ Fc;have s2:=sb.same n1;obtain⟨t,ht,a',p',rfl,BT,q,xs,Fa,hq,hx⟩:=(hT.mono s2.toT).get hv;have Cl:=mem_of_getElem? ht;obtain⟨t1,t2,t3,t4⟩:=Fb t Cl;obtain⟨r1,r2,r3⟩:=EW t Cl;have sT:Same H2 (upd H2 Tt (.tup [.int (i:Int),.ref a'])):=aN Fc;fail "r";refine⟨Tt,_,rfl,.of aC,rfl,_,_,rfl,_,_,rfl,rfl,?_⟩;generalize upd H2 Tt (.tup [.int (i:Int),.ref a'])=H3 at sT;fail "r";have u3:=s2.trans sT;refine⟨_,_,.inr (.of (sT _ _ BT)),a0 (j:=1) rfl,_,.of (u3 _ _ mt),λq1 G1 m1 g1 e1=>⟨_,.of ((u3.trans g1) _ _ mt),λq2 G2 m2 g2 e2=>.inl ⟨_,_,g2 _ _ e1,e2,?_,λq3 G3 m3 g3 e3=>?_⟩⟩⟩
 .rw[cV,cX,length_drop,length_take,length_map];exact aA (by lia)
 rw[cV,cX,<- map_drop,<- List.map_take,<- map_append] at e3;have w3:=sT.trans (g1.trans (g2.trans g3));refine⟨t.2.1,t.2.2,p',q,q3,xs,is.drop i++is.take i,rfl,w3 _ _ Fa,w3 _ _ hq,hx.mono w3.toT,by lia,λc hc=>⟨(t2.2 c hc).1,r1 c hc⟩,e3,by rw[length_append,length_drop,length_take];lia,λwz G4 EX ld _ g4=>⟨⟨_,.of ((w3.trans g4) _ _ h2)⟩,_,_,.inr (.of ((w3.trans g4) _ _ BT)),a0 (j:=0) rfl,?_⟩⟩;refine⟨t.2.1,t.2.2,wz,rfl,EX,ld,⟨⟨λc hc=>(t2.2 c hc).1,t3⟩,r1,r2,by lia,r3⟩,λv G5 g5 hv=>⟨by decide,λq6 G6 m6 g6 e6=>?_⟩⟩;have w6:=w3.trans (g4.trans (g5.trans g6));obtain⟨pp,rfl,EY⟩:=Ch (hv.mono g6.toT);have Fe:=hU.length;have h6:=w6 _ _ h2;have sL:=bD (ys:=us++[.ref q6]) h6;have n6:q6≠p1:=λz=>by rw[z,h6] at e6;cases e6
 refine⟨us,h6,Nat.lt_of_le_of_lt (show us.length<=16 by rw[Fe,length_take];lia) (by decide),(sb.trans w6.but).trans dP,us++[.ref q6],_,_,_,⟨rfl,rfl,rfl⟩,aC,?_⟩;rw[take_add_one,ht];exact .append (.cons ⟨q6,pp,rfl,by rw[aE n6];exact e6,EY.mono sL⟩ .nil) ((hU.mono w6.toT).mono sL)
theorem EO:g.Du.Ok P w base 8 (sp__law_led_right K):=by
 refine lnF fM ?_;rintro FQ A Fl s H vs Q E hr ⟨l,lv,l0,pw,qw,T,ws,kk,t,bs,ys,rfl,hl,hT,Fi,FP,FJ,FK,EW,hG,F8,FE,hB,Ft,Fg,k⟩
 nomatch (aP (fT (i:=4) fM.nd rfl (Or.inr rfl) (by fail "D"))
   (a9 (by fail "D")
   (aP (cmpS ["_law_found","_law_table_here"] [4,0] 5 fM.nd (dB rfl g.cg.1 (a8 (by fail "D") aB)) (cL (ptm cE (px K (px K (pv 2) (pv 0)) aV) (px K (pv 1) aV))) (pv 0))
   (a9 (by fail "D")
   (a9 (aS (ptm cE (by fail "D") (pv 1))
    (by fail "D") aT)
   (a9 (by fail "D")
   (a9 (by fail "D")
   (aD (by fail "D"))))))))),fM.nd,sH,sC,sG,hint 6 0,g.aK,g.av,g.au
 fail "r";have Fo:=hT.length;have F6:=mem_of_getElem? EW;obtain⟨t1,t2,t3,t4⟩:=Fi t F6;have EY:∀c∈t.2.1,PcOk c:=λc hc=>(t2.2 c hc).1;have gA:=cY hG EY t3;have ld:=iC hG EY t3 t.2.2;obtain⟨F3,EZ⟩:=nH hG EY F8;obtain⟨ss,F7⟩:∃ss,ss=stpsM t.2.1 bs:=⟨_,rfl⟩;rw[<- F7] at gA ld F3 EZ Fg;have Ff:ss.length<=50:=by lia
 have Fq:t∈T.filter (fitR true t.2.2 ss):=mem_filter.mpr ⟨F6,ld⟩;obtain⟨b0,L,hF⟩:∃b0 L,T.filter (fitR true t.2.2 ss)=b0::L:=by
  cases h:T.filter (fitR true t.2.2 ss) with
  |nil=>rw[h] at Fq;cases Fq
  |cons b L=>exact⟨b,L,rfl⟩
 obtain⟨m,hm⟩:∃m,m=mostM mrR b0 L:=⟨_,rfl⟩;obtain⟨pr,po,eT,Fw,Fu,Fv⟩:=mz hF;rw[<- hm] at eT Fw Fu Fv;have Fx:m∈T:=by rw[eT];simp
 obtain⟨m1,m2,m3,m4⟩:=Fi m Fx;have hj:T[pr.length]?=some m:=by rw[eT,List.getElem?_append_right (Nat.le_refl _),Nat.sub_self];rfl
 have mt:fitsP m.2.1 m.2.2 true ss t.2.2=true:=Fw;obtain⟨_,me,ml,_,Fa⟩:=gi mt;obtain⟨Fk,FL⟩:=iE (cs:=m.2.1) (ss:=ss) (λi c hc=>dy mt hc) m3 ml (λs hs=>⟨⟨(gA.sg s hs).1,EZ s hs⟩,Fa s hs⟩) Ff;refine⟨λZ H1=>Same H H1/\Ex3 λ(pf lf:Addr) (yf:List V)=>Z=[some (.ref l),some (.int (kk:Int)),some (.ref lv),some (.ref pw),some (.ref pf),none,none]/\H1 pf=some (.tup [tV m.1,.ref lf])/\H1 lf=some (.lst yf)/\BndV H1 lf (boundM m.2.1 ss) yf,?_,?_⟩
 .exact⟨l,pw,qw,T,ws,true,t.2.2,ss,rfl,hl,hT,λt ht=>(Fi t ht).2.1,by lia,Ft,Fg,by lia,(λs hs=>by have:=EZ s hs;lia),(λh0=>by rw[hF] at h0;cases h0),λb L' F1 pf lf yf H1 nl s1 h1 h2 h3=>by rw[hF] at F1;cases F1;rw[<- hm] at h1 h3;exact⟨s1,pf,lf,yf,rfl,h1,h2,h3⟩⟩
 rintro Z H1 ⟨s1,pf,lf,yf,rfl,Cl,Fz,Fj⟩;have kp:kindV (.ref pf) H1=some "tuple" := by simp only[kindV,Cl]
 fail "r";refine⟨_,kp,ite2 (λz=>absurd z (by decide)) (λ_=>⟨_,.inr (.of Cl),ite2 (λz=>absurd rfl z) (λ_=>?_)⟩)⟩;refine⟨λZ H2=>Same H1 H2/\∃lp:Addr,Z=[some (.ref l),some (.int (kk:Int)),some (.ref lv),some (.ref pw),some (.ref pf),some (.ref lp),none]/\H2 lp=some (.lst [.int (pr.length:Int)]),?_,?_⟩
 .refine⟨_,.inl (.of (s1 _ _ hl)),by lia,by lia,λp2 n2=>?_⟩;rw[Int.toNat_natCast];refine AS (λi=>decide ((T.map (·.1))[i]?=some m.1)) (λi=>V.int (0+(i:Int))) (aA (by lia)) n2 (λi hi H3 R s3 hR=>?_) (λi hi hf H3 R s3 hR=>?_) (λH3 s3 FF=>⟨s3,p2,rfl,?_⟩)
  .obtain⟨w,hw⟩:∃w,ws[i]?=some w:=⟨_,List.getElem?_eq_getElem hi⟩;obtain⟨u,hu,a',p',rfl,FI,_⟩:=hT.get hw;have F4:=s1.trans s3;fail "r";refine⟨_,_,.inl (.of (F4 _ _ hl)),by rw[Int.zero_add];exact a0 hw,?_⟩;fail "r";refine⟨_,_,.inr (.of (F4 _ _ FI)),a0 (j:=0) rfl,_,_,.inr (.of (s3 _ _ Cl)),a0 (j:=0) rfl,aF.mpr ⟨_,rfl,?_⟩⟩;have e1:decide ((⟨u.1.toArray⟩:Str)=⟨m.1.toArray⟩)=decide ((T.map (·.1))[i]?=some m.1):=by
    rw[List.getElem?_map,hu,decide_eq_decide,aR];exact⟨λz=>by rw[<- z];rfl,λz=>Option.some.inj z⟩
   rw[e1];exact hR H3 (Same.refl _)
  .fail "r";exact hR H3 (Same.refl _)
  .rw[FF,Fo,show T.length=(T.map (·.1)).length by rw[length_map],ng FJ (k:=pr.length) (by rw[List.getElem?_map,hj];rfl)];show some (HO.lst [V.int (0+(pr.length:Int))])=_;rw[Int.zero_add]
 rintro Z H2 ⟨s2,lp,rfl,EX⟩;have u2:=s1.trans s2;have FB:=s2 _ _ Cl;obtain⟨wj,Fp⟩:∃w,ws[pr.length]?=some w:=⟨_,List.getElem?_eq_getElem (by rw[Fo];exact (List.getElem?_eq_some_iff.mp hj).1)⟩;obtain⟨m',Fy,am,pm,rfl,FH,F9⟩:=hT.get Fp;rw[hj] at Fy;cases Fy;obtain⟨wk,Fc⟩:∃w,ws[kk]?=some w:=⟨_,List.getElem?_eq_getElem (by rw[Fo];exact (List.getElem?_eq_some_iff.mp EW).1)⟩;obtain⟨t',Fr,ak,pk,rfl,F0,FA⟩:=hT.get Fc;rw[EW] at Fr;cases Fr;fail "r";refine⟨_,.inl (.of EX),ite2 (λz=>absurd rfl z) (λ_=>⟨_,_,.inl (.of EX),a0 (j:=0) rfl,?_⟩)⟩;fail "r";refine ite2 (λhe=>⟨_,_,.inr (.of FB),a0 (j:=1) rfl,?_⟩) (λFC=>?_)
 .have hx:pr.length=kk:=by lia
  rw[hx,EW] at hj;have FM:t=m:=Option.some.inj hj;rw[<- FM,gA.bnd] at Fj;have FD:=hG.names;have Fm:SeqAt.shaped (bndD bs)=true:=(gm (λb hb=>by
   have h9:b.1∈gapsM t.2.1:=by rw[<- FD];exact mem_map_of_mem hb
   obtain⟨c,hc,e⟩:=mem_map.mp h9;rw[<- e];exact (t2.2 c (mem_filter.mp hc).1).2.2.2) hG.vl).shaped (by decide)
  refine⟨bndD bs,bndD bs,.lst (s2 _ _ Fz) (Fj.mono s2).vls.isAll,.lst (u2 _ _ FE) (hB.mono u2).vls.isAll,Fm,Fm,?_⟩;rw[gp];exact k H2 u2
 obtain⟨Fe,F5⟩:=Ci eT EW (λz=>FC (by lia)) (λh=>Fu t h ld) (λh=>Fv t h ld);refine⟨_,_,.inl (.of EX),a0 (j:=0) rfl,?_⟩;fail "r";refine⟨_,_,.inl (.of (u2 _ _ hl)),a0 Fp,?_⟩;fail "r";refine⟨_,_,.inr (.of (u2 _ _ FH)),a0 (j:=1) rfl,_,_,.inl (.of (u2 _ _ hl)),a0 Fc,?_⟩;fail "r";obtain⟨qm,xm,dl,Fh,Fb⟩:=F9;obtain⟨qk,xk,BT,Fs,Fn⟩:=FA;have tx:∀{u:Rw},PcsOk u.2.1->∀c∈u.2.1,PcTx c:=λh c hc=>(h.2 c hc).1.tx;have wl:SeqAt.shaped (wyD true ss m.2.2)=true:=(mP λs hs=>(gA.sg s hs).1.2).shaped (by decide);have F2:∀H3,Same H1 H3->IxE K H3 pf 1 λv=>sp_filled K [.ref pm,v] H3 (λx H4=>rEqD x (.ref pw) H4 Q) E0:=λH3 s3=>by
  have u3:=s1.trans s3;have FG:=nu Fk (λc hc=>(m2.2 c hc).1) m3 (FK m Fx);rw[FL] at FG;refine⟨_,_,.inr (.of (s3 _ _ Cl)),a0 (j:=1) rfl,m.2.1,xm,pm,qm,lf,m.2.2,_,yf,ss,rfl,.of (u3 _ _ dl),.of (u3 _ _ Fh),(Fb.mono u3.toT).all,by lia,(λc hc=>by have:=(m2.2 c hc).1.ends;exact⟨by lia,by lia⟩),s3 _ _ Fz,(Fj.mono s3).vls,?_,λw hw=>?_,FG,λFO FN H4 s4 h1 h2=>?_⟩
  .have:=congrArg List.length Fk.names;have:=cW m.2.1;rw[length_map] at *
   lia
  .obtain⟨b,hb,rfl⟩:=mem_map.mp hw;exact (Fk.vl b hb).small
  .rw[<- me] at wl h2;have u4:=u3.trans s4;refine⟨wyD true ss t.2.2,wyD true ss t.2.2,eB h2 h1,eB (u4 _ _ Ft) (u4 _ _ Fg),wl,wl,?_⟩;rw[mQ];exact k H4 u4
 refine⟨_,_,.inr (.of (u2 _ _ F0)),a0 (j:=1) rfl,t.2.1,m.2.1,xk,xm,pk,qk,pm,qm,t.2.2,m.2.2,rfl,.of (u2 _ _ BT),.of (u2 _ _ Fs),(Fn.mono u2.toT).all,.of (u2 _ _ dl),.of (u2 _ _ Fh),(Fb.mono u2.toT).all,by lia,by lia,tx t2,tx m2,λH3 s3=>⟨_,rfl,?_⟩⟩;have Fe:moreM t.2.1 m.2.1=false:=Fe;have u3:=u2.trans s3;rw[Fe];refine ite2 (λz=>by cases z) (λ_=>⟨_,_,.inl (.of (u3 _ _ hl)),a0 Fc,?_⟩);fail "r";refine⟨_,_,.inr (.of (u3 _ _ F0)),a0 (j:=1) rfl,m.2.1,t.2.1,xm,xk,pm,qm,pk,qk,m.2.2,t.2.2,rfl,.of (u3 _ _ dl),.of (u3 _ _ Fh),(Fb.mono u3.toT).all,.of (u3 _ _ BT),.of (u3 _ _ Fs),(Fn.mono u3.toT).all,by lia,by lia,tx m2,tx t2,λH4 s4=>⟨_,rfl,?_⟩⟩;have w4:=s2.trans (s3.trans s4);refine ite2 (λz=>⟨_,_,.inl (.of ((s3.trans s4) _ _ EX)),a0 (j:=0) rfl,?_⟩) (λ_=>F2 H4 w4);fail "r";have:=F5 z;exact ite2 (λz=>absurd z (by lia)) (λ_=>F2 H4 w4)
theorem EQ:FnOk P w K mg base CX0 9 g.fB g.cq ["table","base","name","values","question","mark"] (sp_made_address K):=by
 refine lnT (g.io.ok rk) ?_;rintro EY A dl s H vs Q E hr ⟨l,lv,T,ws,n,wz,ys,x,vb,vq,vm,t,ss,rfl,hb,hl,hT,EW,EX,hV,BT,mt,h0,ht,Cl,k⟩
 exists rk.nd,sI,rm,g.ia,hint 3 0,hint 2 0,hint 1 317
 fail "r";obtain⟨pb,wb,qb,rfl,ld,_,_⟩:=gI hb;refine⟨pb,x.scheme,_,rfl,.of ld,_,rfl,?_⟩;rw[decide_eq_false h0];refine ite2 (λz=>by cases z) (λ_=>?_);fail "r";refine⟨_,ld,λp1 H1 s1 h1=>?_⟩;rw[show (some (3:Int))=some ((3:Nat):Int) from rfl,cX] at h1;refine⟨l,lv,T,ws,n,wz,ys,t,ss,rfl,s1 _ _ hl,hT.mono s1.toT,EW,s1 _ _ EX,hV.mono s1,BT,mt,ht,Cl,λpw qw H2 s2 h2 h3=>⟨by decide,λp3 H3 n3 s3 h4=>?_⟩⟩;refine .inr ⟨_,_,(s2.trans s3) _ _ h1,h4,(show 3+3<=sizeLine by decide),λp5 H5 s5 h5=>?_⟩;exact k p5 pw qw H5 (((s1.trans s2).trans s3).trans s5) ((s3.trans s5) _ _ h2) ((s3.trans s5) _ _ h3) h5
theorem ER:g.Dv.Ok P w base 10 (sp__law_holds K):=by
 refine lnF fN ?_;rintro FS A Fr s H vs Q E hr ⟨l,T,ws,kk,t,c,x,vb,rfl,hl,hT,Fe,FQ,Fn,F4,BT,Fv,wx,FA,k⟩
 nomatch (aP (by fail "D")
   (aP (by fail "D")
   (aP (sx 7 fN.nd (aY g.oM (sI g) hr rfl (a8 (pv 0) (a8 (pv 4) (a8 (yg (K:=K) rfl (pv 6) dI dI (fX (by fail "D"))) aB)))))
   (aP (by fail "D")
   (aP (by fail "D")
   (aP (by fail "D")
   (aP (sx 9 fN.nd (ag (EQ g) (hr.mono (by decide)) rfl g.pP g.io.kp g.pQ .nil pass0 (a8 (pv 0) (a8 (pv 3) (a8 (pv 4) (a8 (pv 6) (a8 (by fail "D") (a8 (pv 8) aB))))))))
   (aP (by fail "D")
   (a9 (by fail "D")
   (aP (by fail "D")
   (aD (by fail "D")))))))))))),fN.nd,sG,EM,Ew,fR,EO,sE,DZ,EE,hint 6 0,g.aK,hint 3 0,hint 2 0,hint 7 0
 obtain⟨pb,wb,qb,rfl,FK,_,_⟩:=gI Fv;fail "r";have FO:=hT.length;have Fj:=mem_of_getElem? BT;obtain⟨t1,t2,t3,t4⟩:=Fe t Fj;have ld:∀c∈t.2.1,PcOk c:=λc hc=>(t2.2 c hc).1;have Fc:∀u∈T,PcsOk u.2.1:=λu hu=>(Fe u hu).2.1;obtain⟨gn,ge⟩:=F4 t Fj;obtain⟨wk,Fu⟩:∃w,ws[kk]?=some w:=⟨_,List.getElem?_eq_getElem (by rw[FO];exact (List.getElem?_eq_some_iff.mp BT).1)⟩;obtain⟨t',Fx,ak,pk,rfl,FM,Fm⟩:=hT.get Fu;rw[BT] at Fx;cases Fx;refine⟨λZ H1=>H=H1/\Z=[some (.ref l),some (.int (kk:Int)),some (.int c),some (.ref pb),some (tV t.1),some (.ref pk),none,none,none,none,none,none],⟨_,_,.inl (.of hl),a0 Fu,?_⟩,?_⟩
 .fail "r";exact⟨ak,_,rfl,.of FM,rfl,_,_,rfl,_,_,rfl,rfl,rfl,rfl⟩
 rintro Z H1 ⟨rfl,rfl⟩;fail "r";refine⟨λZ H1=>Same H H1/\Ex3 λ(bs:List (Tq×Vl)) (lv:Addr) (ys:List V)=>Z=[some (.ref l),some (.int (kk:Int)),some (.int c),some (.ref pb),some (tV t.1),some (.ref pk),some (.ref lv),none,none,none,none,none]/\GvA t.2.1 bs/\(∀b∈bs,SmV b.2)/\H1 lv=some (.lst ys)/\BndV H1 lv bs ys,?_,?_⟩
 .refine⟨⟨by decide,by decide⟩,⟨by decide,by decide⟩,⟨by decide,by decide⟩,by decide,λpc H1 n1 s1 e1=>⟨t.2.1,t.2.2,pk,pc,[c / 3,c / 5,c / 13+1],rfl,Fm.mono s1.toT,ld,by lia,.of e1,by simp,by simp,λbs lv ys H2 h1 h2 _ _ s2 h3 h4=>⟨s1.trans s2,bs,lv,ys,rfl,h1,h2,h3,h4⟩⟩⟩
 rintro Z H1 ⟨s1,bs,lv,ys,rfl,hG,Fz,EZ,hB⟩;have gA:=cY hG ld t3;have Fa:=iC hG ld t3 t.2.2;obtain⟨FB,Cl⟩:=nH hG ld Fz;have hbl:=hB.length;have FP:bs.length<=5:=by have h:=congrArg List.length hG.names;have:=cW t.2.1;rw[length_map] at h;lia
 have Fo:∀{zs:List (Tq×Vl)},(∀b∈zs,b∈bs)->∀w∈zs.map λb=>(b.1,vlD b.2),smallD w.2=true:=λh w hw=>by obtain⟨b,hb,rfl⟩:=mem_map.mp hw;exact (hG.vl b (h b hb)).small
 fail "r";refine⟨λZ H2=>Same H1 H2/\Ex2 λ(pw qw:Addr)=>Z=[some (.ref l),some (.int (kk:Int)),some (.int c),some (.ref pb),some (tV t.1),some (.ref pk),some (.ref lv),some (.ref pw),none,none,none,none]/\H2 pw=some (.tup [.bl true,.ref qw,.bl t.2.2])/\H2 qw=some (.tup ((stpsM t.2.1 bs).map tV)),?_,?_⟩
 .refine⟨lv,ys,rfl,.of EZ,by decide,?_⟩;rw[Ca (by lia)];refine⟨aA (by rw[List.length_reverse];lia),λpr nr=>?_⟩;have s2:Same H1 (upd H1 pr (.lst ys.reverse)):=aN nr;exact⟨l,pr,T,ws,t.1,bs.reverse.map λb=>(b.1,vlD b.2),_,t,stpsM t.2.1 bs,rfl,(s1.trans s2) _ _ hl,hT.mono (s1.trans s2).toT,Fc,aC,by rw[List.map_reverse];exact (hB.vls.mono s2).rev,by rw[length_map,List.length_reverse];lia,Fo λb hb=>mem_reverse.mp hb,nj Fn BT,Cb hG ld t3 gn,λpw qw H2 s3 h1 h2=>⟨s2.trans s3,pw,qw,rfl,h2,h1⟩⟩
 rintro Z H2 ⟨s2,pw,qw,rfl,EY,mt⟩;have u2:=s1.trans s2;fail "r";have F9:∀{u:Rw},u∈T->∀{zs:List (Tq×Vl)},zs.map (·.1)=gapsM u.2.1->∀b∈zs,∀c∈b.1,isSg c=true:=λ{u} hu {zs} hn b hb=>by
  have h9:b.1∈gapsM u.2.1:=by rw[<- hn];exact mem_map_of_mem hb
  obtain⟨c,hc,e⟩:=mem_map.mp h9;rw[<- e];exact ((Fc u hu).2 c (mem_filter.mp hc).1).2.2.2
 have lb:SeqAt.shaped (bndD bs)=true:=(gm (F9 Fj hG.names) hG.vl).shaped (by decide);have wl:SeqAt.shaped (wyD true (stpsM t.2.1 bs) t.2.2)=true:=(mP λs hs=>(gA.sg s hs).1.2).shaped (by decide);obtain⟨qk,xk,Fl,FF,FC⟩:=id Fm;refine⟨λZ H3=>Same H2 H3/\Z=[some (.ref l),some (.int (kk:Int)),some (.int c),some (.ref pb),some (tV t.1),some (.ref pk),some (.ref lv),some (.ref pw),none,none,none,none],?_,?_⟩
 .refine⟨t.2.1,t.2.2,pk,lv,lv,bs,ys,rfl,Fm.mono u2.toT,ld,t3,by lia,hG,gn,s2 _ _ EZ,hB.mono s2,λpz qz H3 s3 h1 h2=>⟨_,_,eB (s3 _ _ EY) (s3 _ _ mt),eB h1 h2,wl,wl,_,rfl,?_⟩⟩;rw[mQ];refine ite2 (λz=>by cases z) (λ_=>?_);have u3:=u2.trans s3;refine⟨t.2.1,xk,pk,qk,pw,qw,t.2.2,true,t.2.2,stpsM t.2.1 bs,rfl,.of (u3 _ _ Fl),u3 _ _ FF,(FC.mono u3.toT).all,by lia,(λc hc=>by have:=(ld c hc).ends;exact⟨by lia,by lia⟩),.of (s3 _ _ EY),s3 _ _ mt,by lia,(λs hs=>Nat.le_trans (Cl s hs) (by decide)),(λz=>by rw[Fa] at z;cases z),λ_ l' zs H4 _ _ s4 h4 F6=>?_⟩;rw[gA.bnd] at F6;refine⟨bndD bs,bndD bs,.lst h4 F6.vls.isAll,.lst ((s2.trans (s3.trans s4)) _ _ EZ) (hB.mono (s2.trans (s3.trans s4))).vls.isAll,lb,lb,_,rfl,?_⟩;rw[gp];exact ite2 (λz=>by cases z) (λ_=>⟨s3.trans s4,rfl⟩)
 rintro Z H3 ⟨s3,rfl⟩;have u3:=u2.trans s3;have v3:=s2.trans s3;fail "r";refine⟨λZ H4=>Same H3 H4/\Z=[some (.ref l),some (.int (kk:Int)),some (.int c),some (.ref pb),some (tV t.1),some (.ref pk),some (.ref lv),some (.ref pw),none,none,none,none],?_,?_⟩
 .refine⟨l,lv,lv,pw,qw,T,ws,kk,t,bs,ys,rfl,u3 _ _ hl,hT.mono u3.toT,Fe,by lia,Fn,λu hu=>(F4 u hu).1,BT,hG,Fz,v3 _ _ EZ,hB.mono v3,s3 _ _ EY,s3 _ _ mt,λH4 s4=>⟨true,rfl,?_⟩⟩;rw[if_neg (by decide)];exact⟨s4,rfl⟩
 rintro Z H4 ⟨s4,rfl⟩;have u4:=u3.trans s4;have v4:=v3.trans s4;fail "r";refine⟨λZ H5=>Same H4 H5/\∃tx:Tq,Z=[some (.ref l),some (.int (kk:Int)),some (.int c),some (.ref pb),some (tV t.1),some (.ref pk),some (.ref lv),some (.ref pw),some (tV tx),none,none,none]/\tx.length<=4/\∀c∈tx,isSg c=true,⟨⟨by decide,by decide⟩,c / 17,rfl,λtx H5 h1 h2 s5=>⟨s5,tx,rfl,h1,h2⟩⟩,?_⟩;rintro Z H5 ⟨s5,tx,rfl,FN,Fi⟩;have u5:=u4.trans s5;have v5:=v4.trans s5;have eN:ofString "n"=⟨[110].toArray⟩:=by fail "k"
 rw[eN];fail "r";obtain⟨qs,Fk⟩:∃qs:QuT,qs=some [(tx++[110],some tx)]:=⟨_,rfl⟩;have FL:∀c∈tx++[110],isSg c=true:=Cf Fi (by decide);have F0:QSm qs:=λps e=>by
  rw[Fk] at e;cases e;refine⟨⟨by simp,λp hp=>?_⟩,λp hp=>?_⟩
  .rw[mem_singleton.mp hp];exact⟨by rw[length_append,length_singleton];lia,λv hv=>by cases hv;lia⟩
  .rw[mem_singleton.mp hp];exact⟨⟨by simp,FL⟩,λv hv=>by cases hv;exact Fi⟩
 have F1:MSm (some tx):=λa ha=>by cases ha;exact⟨by lia,Fi⟩
 obtain⟨y,hy⟩:∃y,y=madeA x (stpsM t.2.1 bs) t.2.2 qs (some tx):=⟨_,rfl⟩;have Fp:∀s∈stpsM t.2.1 bs,StepOk s:=λs hs=>⟨length_pos_iff.mpr (gA.sg s hs).1.1,(gA.sg s hs).1.2⟩;have EW:stpsM t.2.1 bs=[]->t.2.2=true:=λz=>ge (List.eq_nil_of_length_eq_zero (by have:=gA.le;rw[z,length_nil] at this;lia));have dl:y.Wf:=by rw[hy];exact nv wx Fp EW F0 F1
 have Ff:y.Sz:=by rw[hy];exact Cg wx Fp EW F0 F1 Cl (by lia)
 refine⟨λZ H6=>Same H5 H6/\Ex4 λ(p pz qz pq:Addr)=>Z=[some (.ref l),some (.int (kk:Int)),some (.int c),some (.ref pb),some (tV t.1),some (.ref pk),some (.ref lv),some (.ref pw),some (tV tx),some (.ref p),none,none]/\H6 pz=some (.tup [.bl true,.ref qz,.bl t.2.2])/\H6 qz=some (.tup ((stpsM t.2.1 bs).map tV))/\IsT H6 (qD qs) (.ref pq)/\H6 p=some (.tup [tV x.scheme,otV x.house,itV x.door,.ref pz,.ref pq,tV tx]),?_,?_⟩
 .refine⟨aA (by simp;lia),by decide,λp1 G1 n1 g1 e1=>⟨by decide,λp2 G2 n2 g2 e2=>?_⟩⟩;have F8:=u5.trans (g1.trans g2);have w2:=v5.trans (g1.trans g2);refine⟨l,lv,T,ws,t.1,bs.map λb=>(b.1,vlD b.2),ys,x,.ref pb,.ref p2,tV tx,t,stpsM t.2.1 bs,rfl,Fv.mono F8.toT,F8 _ _ hl,hT.mono F8.toT,Fc,w2 _ _ EZ,(hB.mono w2).vls,by rw[length_map];lia,Fo λb hb=>hb,FA,nj Fn BT,nu hG ld t3 gn,λp pz qz G3 g3 h1 h2 h3=>⟨g1.trans (g2.trans g3),p,pz,qz,p2,rfl,h2,h1,?_,h3⟩⟩;rw[Fk];exact .tup (g3 _ _ e2) (.cons (.tup ((g2.trans g3) _ _ e1) (.cons (.str _) (.cons (.str _) .nil))) .nil)
 rintro Z H6 ⟨s6,p,pz,qz,pq,rfl,FG,FD,FJ,hp⟩;have u6:=u5.trans s6;have v6:=v5.trans s6;have Fb:∀{H':Hp},Same H6 H'->IsT H' y.data (.ref p):=λ{H'} s'=>by rw[hy];exact adT (x:=madeA x (stpsM t.2.1 bs) t.2.2 qs (some tx)) (s' _ _ hp) (.tup (s' _ _ FG) (.cons (.bl _) (.cons (.tup (s' _ _ FD) (db _)) (.cons (.bl _) .nil)))) (FJ.mono s'.toT)
 fail "r";refine⟨λZ H7=>Same H6 H7/\Z=[some (.ref l),some (.int (kk:Int)),some (.int c),some (.ref pb),some (tV t.1),some (.ref pk),some (.ref lv),some (.ref pw),some (tV tx),some (.ref p),some (tV y.shw),none],⟨y,.ref p,rfl,(Fb (Same.refl _)).k,dl,Ff,λH7 s7=>⟨s7,rfl⟩⟩,?_⟩;rintro Z H7 ⟨s7,rfl⟩;have u7:=u6.trans s7;have mk:∀(H8:Hp) (R:VK),Same H6 H8->(∀(q:Addr) (H9:Hp),Same H8 H9->IsT H9 y.data (.ref q)->R (.ref q) H9)->∃xs,H8 pb=some (.tup xs)/\∀p1 G1,Same H8 G1->G1 p1=some (.tup (cutV xs none (some 3)))->tx.length+1<=sizeLine/\2<=sizeLine/\∀p2 G2,G1 p2=none->Same G1 G2->G2 p2=some (.tup [V.str ⟨(tx++[110]).toArray⟩,tV tx])->1<=sizeLine/\∀p3 G3,G2 p3=none->Same G2 G3->G3 p3=some (.tup [.ref p2])->3<=sizeLine/\∀p4 G4,G3 p4=none->Same G3 G4->G4 p4=some (.tup [.ref pw,.ref p3,tV tx])->rAddS K (.ref p1) (.ref p4) G4 R:=λH8 R s8 hR=>by refine⟨_,(u6.trans s8) _ _ FK,λp1 G1 g1 e1=>⟨aA (by lia),by decide,λp2 G2 _ g2 e2=>⟨by decide,λp3 G3 _ g3 e3=>⟨by decide,λp4 G4 _ g4 e4=>?_⟩⟩⟩⟩;rw[show (some (3:Int))=some ((3:Nat):Int) from rfl,cX] at e1;refine .inr ⟨_,_,(g2.trans (g3.trans g4)) _ _ e1,e4,(show 3+3<=sizeLine by decide),λp5 G5 g5 e5=>hR p5 G5 (g1.trans (g2.trans (g3.trans (g4.trans g5)))) ?_⟩;have w5:=s3.trans (s4.trans (s5.trans (s6.trans (s8.trans (g1.trans (g2.trans (g3.trans (g4.trans g5))))))));rw[hy];refine adT (x:=madeA x (stpsM t.2.1 bs) t.2.2 qs (some tx)) e5 (.tup (w5 _ _ EY) (.cons (.bl _) (.cons (.tup (w5 _ _ mt) (db _)) (.cons (.bl _) .nil)))) ?_;rw[Fk];exact .tup ((g4.trans g5) _ _ e3) (.cons (.tup ((g3.trans (g4.trans g5)) _ _ e2) (.cons (.str _) (.cons (.str _) .nil))) .nil)
 fail "r";have ey:=(Ad.eqv_iff y y).mpr rfl;refine mk H7 _ s7 λq H8 s8 hq=>⟨y.data,y.data,(Fb (s7.trans s8)).is,hq.is,dl.shaped,dl.shaped,_,rfl,?_⟩;have Fg:=s7.trans s8;rw[ey];refine ite2 (λz=>by cases z) (λ_=>⟨aA (Nat.le_trans Ff.all (by decide)),ite2 (λ_=>mk H8 _ Fg λq H9 s9 hq=>⟨y.data,y.data,(Fb (Fg.trans s9)).is,hq.is,dl.shaped,dl.shaped,?_⟩) (λ_=>?_)⟩)
 .rw[ey];exact k H9 (u6.trans (Fg.trans s9))
 refine⟨λZ H9=>Same H8 H9/\∃vu:V,IsT H9 y.data vu/\Z=[some (.ref l),some (.int (kk:Int)),some (.int c),some (.ref pb),some (tV t.1),some (.ref pk),some (.ref lv),some (.ref pw),some (tV tx),some (.ref p),some (tV y.shw),some vu],⟨y,y.shw,rfl,Ff.all,zX dl,dl,zZ dl,λu H9 s9 hu=>⟨s9,u,hu,rfl⟩⟩,?_⟩;rintro Z H9 ⟨s9,vu,hu,rfl⟩;have Fq:=Fg.trans s9;have u9:=u6.trans Fq;obtain⟨pu,wu,qu,rfl,FI,Ft,_⟩:=gI hu;obtain⟨ss,Fy⟩:∃ss,ss=stpsM t.2.1 bs:=⟨_,rfl⟩;have ew:y.way=.tuple [.bool true,.tuple (ss.map st),.bool t.2.2]:=by rw[hy,Fy];rfl
 rw[ew] at Ft;obtain⟨pv,qv,rfl,FH,FE⟩:=ym Ft;fail "r";refine⟨y.data,y.data,hu.is,(Fb Fq).is,dl.shaped,dl.shaped,_,rfl,?_⟩;rw[ey];refine ite2 (λ_=>⟨_,_,.inr (.of FI),a0 (j:=3) rfl,?_⟩) (λz=>absurd rfl z);rw[<- Fy] at gA Fa FB Cl mt;have Fw:t∈T.filter (fitR true t.2.2 ss):=mem_filter.mpr ⟨Fj,Fa⟩;obtain⟨b0,L,hF⟩:∃b0 L,T.filter (fitR true t.2.2 ss)=b0::L:=by
  cases h:T.filter (fitR true t.2.2 ss) with
  |nil=>rw[h] at Fw;cases Fw
  |cons b L=>exact⟨b,L,rfl⟩
 obtain⟨m,hm⟩:∃m,m=mostM mrR b0 L:=⟨_,rfl⟩;obtain⟨pr,po,eT,F2,_,_⟩:=mz hF;rw[<- hm] at eT F2;have F3:m∈T:=by rw[eT];simp
 obtain⟨m1,m2,m3,m4⟩:=Fe m F3;have EX:fitsP m.2.1 m.2.2 true ss t.2.2=true:=F2;obtain⟨_,me,ml,_,Fh⟩:=gi EX;obtain⟨F7,FR⟩:=iE (cs:=m.2.1) (ss:=ss) (λi c hc=>dy EX hc) m3 ml (λs hs=>⟨⟨(gA.sg s hs).1,Cl s hs⟩,Fh s hs⟩) (by lia);have Fs:∀(pz qz:Addr) (H0:Hp) (R:VK),Same H H0->H0 pz=some (.tup [.bl true,.ref qz,.bl t.2.2])->H0 qz=some (.tup (ss.map tV))->(∀(p:Addr) (H':Hp),Same H0 H'->Is H' (.tuple [st m.1,bndD (boundM m.2.1 ss)]) (.ref p)->R (.ref p) H')->sp_lead K [.ref l,.ref pz] H0 R E0:=λpz qz H0 R s0 z1 z2 hR=>
  ⟨l,pz,qz,T,ws,true,t.2.2,ss,rfl,s0 _ _ hl,hT.mono s0.toT,Fc,by lia,z1,z2,by lia,(λs hs=>by have:=Cl s hs;lia),(λh0=>by rw[hF] at h0;cases h0),λb L' F5 pf lf yf H1 nl s1 h1 h2 h3=>by rw[hF] at F5;cases F5;rw[<- hm] at h1 h3;exact hR pf H1 s1 (.tup h1 (.cons (.str _) (.cons (.lst h2 h3.vls.isAll) .nil)))⟩
 have ll:SeqAt.shaped (.tuple [st m.1,bndD (boundM m.2.1 ss)])=true:=(LayAt.tup (n:=3) λd hd=>by
  simp only[mem_cons,not_mem_nil,or_false] at hd;rcases hd with rfl|rfl
  .exact (LayAt.st m1).le (by decide)
  .exact gm (F9 F3 F7.names) F7.vl).shaped (by decide)
 have lq:PyData.eqv (.tuple [st m.1,bndD (boundM m.2.1 ss)]) (.tuple [st m.1,bndD (boundM m.2.1 ss)])=true:=bI λd hd=>by
  simp only[mem_cons,not_mem_nil,or_false] at hd;rcases hd with rfl|rfl
  .exact b7 _
  .exact gp _
 have w9:=s3.trans (s4.trans (s5.trans (s6.trans Fq)));refine Fs pv qv H9 _ u9 FH FE λp1 G1 g1 i1=>Fs pw qw G1 _ (u9.trans g1) ((w9.trans g1) _ _ EY) ((w9.trans g1) _ _ mt) λp2 G2 g2 i2=>⟨_,_,i1.mono g2,i2,ll,ll,?_⟩;rw[lq];exact k G2 (u9.trans (g1.trans g2))
theorem ES:g.f_law.Ok P w base 11 (sp_law K):=by
 refine lnF cw ?_;rintro Fk A Cl s H vs Q E hr ⟨a,ns,rfl,hS,hn,k⟩
 nomatch (a9 (by fail "D")
   (aP (by fail "D")
   (aP (by fail "D")
   (aP (sx 4 cw.nd (aY g.oN (EN g) hr rfl (a8 (pv 3) (a8 (aX (nX (K:=K) rfl) (pv 0) (by fail "D")) aB))))
   (aP (by fail "D")
   (aP (by fail "D")
   (a9 (bC PassesOwn.never rfl (gX (K:=K) rfl rfl g.br.1 (a8 (aX (nX (K:=K) rfl) (pv 0) (by fail "D")) aB)) (bo (n:=2) (K:=K) rfl rfl (af (pgn 6 cw.nd) (af (pgn 7 cw.nd) bS)))
   (by fail "D"))
   (aD (by fail "D"))))))))),cw.nd,ER,rq,DV,EK,hint 6 0,hint 2 0,hint 7 0
 fail "r";refine⟨a,ns,1,rfl,hS,?_⟩;obtain⟨m,hm,em⟩:∃m:Nat,(0 < m/\m<=16)/\1+ns.getD 1 0 % 16=(m:Int):=⟨(1+ns.getD 1 0 % 16).toNat,by lia,by lia⟩;fail "r";rw[em];refine⟨by decide,λZ H1=>Same H H1/\∃(lb:List Tq) (pl:Addr),Z=[some (.ref a),some (.int (m:Int)),some (.ref pl),none,none,none,none,none]/\H1 pl=some (.lst (lb.map tV))/\lb.length=16/\(∀n∈lb,0 < n.length/\n.all isSma=true)/\lb.Nodup,⟨a,ns,1,rfl,hS,?_⟩,?_⟩
 .fail "r";exact⟨⟨by decide,by decide⟩,_,16,rfl,by decide,λnm pn H1 h1 h2 h3 s1 h4=>⟨s1,nm,pn,rfl,h4,h1,λn dl=>⟨(h2 n dl).1,(h2 n dl).2.2⟩,h3⟩⟩
 rintro Z H1 ⟨s1,lb,pl,rfl,EW,Fi,Fb,Fc⟩;fail "r";refine⟨λZ H2=>Same H H2/\∃(T:List Rw) (ws:List V) (l:Addr) (nm:List Tq),Z=[some (.ref a),some (.int (m:Int)),some (.ref pl),some (.ref l),none,none,none,none]/\H2 l=some (.lst ws)/\TbV H2 T ws/\TabOk T/\T.length=m/\(∀n∈nm,NmOk n)/\nm.Nodup/\(∀t∈T,NmP nm t.2.1)/\T.map (·.1)=lb.take m/\∀t∈T,t.2.1=[]->t.2.2=true,⟨a,ns,0,rfl,s1.seq hS,_,6,rfl,by decide,λnm pn H2 h1 h2 h3 s2 h4=>⟨a,pn,pl,ns,nm,lb,m,rfl,(s1.trans s2).seq hS,h4,h1,λn dl=>dz (h2 n dl).2.2,s2 _ _ EW,by lia,λn dl=>dz (Fb n dl).2,hm.2,λT ws l H3 _ s3 g1 g2 g3 g4 g5 g6 g7=>⟨s1.trans (s2.trans s3),T,ws,l,nm,rfl,g1,g2,g3,g4,λn dl=>⟨⟨(h2 n dl).1,(h2 n dl).2.1⟩,(h2 n dl).2.2⟩,h3,g5,g6,g7⟩⟩⟩,?_⟩;clear EW s1;rintro Z H2 ⟨s2,T,ws,l,nm,rfl,hl,hT,ld,Fj,EZ,Fa,Fe,Ff,EX⟩;have Fg:(T.map (·.1)).Nodup:=by rw[Ff];exact (List.take_sublist m lb).nodup Fc
 have BT:∀t∈T,(gapsM t.2.1).Nodup/\∀n∈gapsM t.2.1,NmOk n:=λt ht=>by obtain⟨g1,g2⟩:=mM Fa (cs:=t.2.1) 0 (λi c hc hs=>by rw[Nat.zero_add];exact Fe t ht i c hc hs);exact⟨g1,λn dl=>by obtain⟨j,_,hj⟩:=g2 _ dl;exact EZ _ (mem_of_getElem? hj)⟩
 fail "r";refine⟨λZ H3=>Same H2 H3/\∃(us:List V) (l':Addr),Z=[some (.ref a),some (.int (m:Int)),some (.ref pl),some (.ref l),some (.ref l'),none,none,none]/\H3 l'=some (.lst us)/\TbV H3 T us,?_,?_⟩
 .refine⟨by decide,λp1 G1 n1 g1 e1=>?_⟩;fail "r";refine⟨ns.map V.int,[.int 7],(s2.trans g1).seq hS,.of e1,aA (by rw[length_map,length_singleton];lia),λp2 n2=>?_⟩;have u:∀o,Same H2 (upd G1 p2 o):=λo=>g1.trans (aN n2);exact⟨l,p2,T,ws,ns++[7],rfl,u _ _ _ hl,hT.mono (u _).toT,ld,by lia,λt ht=>⟨λc hc hs=>(BT t ht).2 _ (mem_map.mpr ⟨c,mem_filter.mpr ⟨hc,by rw[hs];rfl⟩,rfl⟩),(BT t ht).1,EX t ht⟩,by rw[aC,map_append];rfl,by rw[length_append,length_singleton];lia,λus l' H' s' h1 h2=>⟨(u _).trans s',us,l',rfl,h1,h2⟩⟩
 rintro Z H3 ⟨s3,us,l',rfl,mt,hU⟩;have u3:=s2.trans s3;fail "r";refine⟨λZ H4=>H3=H4/\Z=[some (.ref a),some (.int (m:Int)),some (.ref pl),some (.ref l),some (.ref l'),none,none,none],⟨.list (T.map rwD),.list (T.map rwD),.lst mt hU.isAll,.lst (s3 _ _ hl) (hT.mono s3.toT).isAll,cb ld,cb ld,_,rfl,?_⟩,?_⟩
 .rw[nZ];exact ite2 (λz=>by cases z) (λ_=>⟨rfl,rfl⟩)
 rintro Z H4 ⟨rfl,rfl⟩;fail "r";refine⟨λZ H4=>Same H3 H4/\∃(x:Ad) (vb:V),Z=[some (.ref a),some (.int (m:Int)),some (.ref pl),some (.ref l),some (.ref l'),some vb,none,none]/\IsT H4 x.data vb/\x.Wf/\x.scheme≠[],?_,?_⟩
 .refine⟨by decide,λp1 G1 n1 g1 e1=>⟨a,ns,2,rfl,(u3.trans g1).seq hS,?_⟩⟩;obtain⟨j,hj,ej⟩:∃j:Nat,j < 3/\ns.getD 2 0 % 3=(j:Int):=⟨(ns.getD 2 0 % 3).toNat,by lia,by lia⟩;have eX:ofString "x1"=⟨[120,49].toArray⟩:=by fail "k"
  have eZ:ofString "z"=⟨[122].toArray⟩:=by fail "k"
  rw[eX,eZ];fail "r";rw[ej];obtain⟨ho,hv,hh⟩:∃ho:Option Tq,atI [V.non,V.str (ofString "a b"),V.str (ofString "h")] (j:Int)=some (otV ho)/\∀l,ho=some l->(0 < l.length/\l.length<=60)/\∀c∈l,isSg c=true:=by
   match j,hj with
   |0,_=>exact⟨none,a0 (j:=0) rfl,λl z=>by cases z⟩
   |1,_=>exact⟨some [97,32,98],a0 (j:=1) (by fail "k"),λl z=>by cases z;decide⟩
   |2,_=>exact⟨some [104],a0 (j:=2) (by fail "k"),λl z=>by cases z;decide⟩
  refine⟨by decide,_,_,.inl (.of e1),hv,by decide,λp2 G2 n2 g2 e2=>⟨by decide,λp3 G3 n3 g3 e3=>⟨by decide,λp4 G4 n4 g4 e4=>⟨g1.trans (g2.trans (g3.trans g4)),⟨[120,49],ho,none,true,[[122]],false,none,none⟩,?_,?_,by simp⟩⟩⟩⟩
  .exact adT (x:=⟨[120,49],ho,none,true,[[122]],false,none,none⟩) e4 (.tup (g4 _ _ e3) (.cons (.bl _) (.cons (.tup ((g3.trans g4) _ _ e2) (.cons (.str _) .nil)) (.cons (.bl _) .nil)))) .non
  .exact⟨show [120,49].length<=8/\(∀c∈[120,49],isAln c=true)/\∀c∈[120,49].take 1,isLet c=true by decide,hh,(λi z=>by cases z),λs hs=>(by rw[mem_singleton.mp hs];exact⟨by decide,by decide⟩),λ_=>rfl,(λz=>by cases z),(λps z=>by cases z),λl z=>by cases z⟩
 rintro Z H4 ⟨s4,x,vb,rfl,EY,wx,sx⟩;have u4:=u3.trans s4;fail "r";refine⟨by decide,λp5 H5 n5 s5 e5=>⟨ns.map V.int,[.int 5],(u4.trans s5).seq hS,.of e5,aA (by rw[length_map,length_singleton];lia),λp6 n6=>⟨p6,_,rfl,.of aC,?_⟩⟩⟩;rw[show ns.map V.int++[.int 5]=(ns++[5]).map V.int by rw[map_append];rfl];generalize hH:upd H5 p6 _=H6;have s6:Same H4 H6:=hH▸s5.trans (aN n6);have h6:H6 p6=some (.lst ((ns++[5]).map V.int)):=hH▸aC;refine gY (xs:=(ns++[5]).map V.int) (λi Z H'=>Same H6 H'/\∃v6 v7:Option V,Z=[some (.ref a),some (.int (m:Int)),some (.ref pl),some (.ref l),some (.ref l'),some vb,v6,v7]) ⟨Same.refl _,_,_,rfl⟩ (λi Z H' _ h=>.of (h.1 _ _ h6)) ?_ ?_
 .rintro i v Z H7 T1 hv ⟨s7,v6,v7,rfl⟩ Fh;obtain⟨c,_,rfl⟩:=mem_map.mp (mem_of_getElem? hv);have sT:=s7.trans (aN (o:=.tup [.int (i:Int),.int c]) Fh);fail "r";refine⟨T1,_,rfl,.of aC,rfl,_,_,rfl,_,_,rfl,rfl,?_⟩;generalize upd H7 T1 (.tup [.int (i:Int),.int c])=H8 at sT;fail "r";obtain⟨j,hj,ej⟩:∃j:Nat,j < m/\(c+(i:Int)) % (m:Int)=(j:Int):=by
   have h1:=Int.emod_nonneg (c+(i:Int)) (show (m:Int)≠0 by lia);have h2:=Int.emod_lt_of_pos (c+(i:Int)) (show 0 < (m:Int) by lia);exact⟨((c+(i:Int)) % (m:Int)).toNat,by lia,by lia⟩
  have w8:=s6.trans sT;refine⟨by lia,?_⟩;rw[ej];exact⟨l',T,us,j,_,c,x,vb,rfl,(s4.trans w8) _ _ mt,hU.mono (s4.trans w8).toT,ld,by lia,Fg,λt ht=>⟨(BT t ht).1,EX t ht⟩,List.getElem?_eq_getElem (by lia),EY.mono w8.toT,wx,sx,λH9 s9=>⟨_,rfl,ite2 (λz=>by cases z) (λ_=>⟨sT.trans s9,_,_,rfl,rfl⟩)⟩⟩
 .rintro Z H7 ⟨s7,v6,v7,rfl⟩;have w7:=s4.trans (s6.trans s7);fail "r";refine⟨.list (T.map rwD),.list (T.map rwD),.lst (w7 _ _ mt) (hU.mono w7.toT).isAll,.lst ((s3.trans w7) _ _ hl) (hT.mono (s3.trans w7).toT).isAll,cb ld,cb ld,?_⟩;rw[nZ];exact k H7
end
theorem usl0 {us:List Value}(h:us.length=0):us=[]:=length_eq_zero_iff.mp h
theorem usl1 {us:List Value}(h:us.length=1):∃x0,us=[x0]:=List.length_eq_one_iff.mp h
local macro_rules|`(tactic| fail "b1")=>`(tactic| exact λ_ _ _ _ _ _ us hl=>by obtain⟨x0,e⟩:=usl1 hl;subst e;rfl)
theorem usl2 {us:List Value}(h:us.length=2):∃x0 x1,us=[x0,x1]:=by
 cases us with
 |nil=>cases h
 |cons x0 l=>obtain⟨x1,rfl⟩:=usl1 (Nat.succ.inj h);exact⟨_,_,rfl⟩
local macro_rules|`(tactic| fail "b2")=>`(tactic| exact λ_ _ _ _ _ _ us hl=>by obtain⟨x0,x1,e⟩:=usl2 hl;subst e;rfl)
theorem usl3 {us:List Value}(h:us.length=3):∃x0 x1 x2,us=[x0,x1,x2]:=by
 cases us with
 |nil=>cases h
 |cons x0 l=>obtain⟨x1,x2,rfl⟩:=usl2 (Nat.succ.inj h);exact⟨_,_,_,rfl⟩
theorem usl4 {us:List Value}(h:us.length=4):∃x0 x1 x2 x3,us=[x0,x1,x2,x3]:=by
 cases us with
 |nil=>cases h
 |cons x0 l=>obtain⟨x1,x2,x3,rfl⟩:=usl3 (Nat.succ.inj h);exact⟨_,_,_,_,rfl⟩
theorem usl5 {us:List Value}(h:us.length=5):∃x0 x1 x2 x3 x4,us=[x0,x1,x2,x3,x4]:=by
 cases us with
 |nil=>cases h
 |cons x0 l=>obtain⟨x1,x2,x3,x4,rfl⟩:=usl4 (Nat.succ.inj h);exact⟨_,_,_,_,_,rfl⟩
theorem usl6 {us:List Value}(h:us.length=6):∃x0 x1 x2 x3 x4 x5,us=[x0,x1,x2,x3,x4,x5]:=by
 cases us with
 |nil=>cases h
 |cons x0 l=>obtain⟨x1,x2,x3,x4,x5,rfl⟩:=usl5 (Nat.succ.inj h);exact⟨_,_,_,_,_,_,rfl⟩
noncomputable abbrev fo (n:Str)(s:Stmt)(d k a b:Value)(e:Option Addr)(c t:Value):FuncData:=W.fnOf n n (defArgs s) (defBody s) (defScope s) d k a b e c t
theorem ET {l:PySem.W.OpenLaw}{w:World}{K:W.Frag}{h:Heap}{mg:Str->Option Value}{fa:Addr}(X:K.In h)(Gl:h.Ns mainGlobals mg)(hfa:mg "law"=some (.ref fa))(d:D K mg)
  {kC_Cursor:Addr} (aC_Cursor:W.nsIn K mainGlobals "Cursor"=some (some (.ref kC_Cursor)))
  (a17:W.findIn K (.ref kC_Cursor) "__init__"=some (some (.ref f17))) (i17:W.isFn K (.ref f17)=true) (l17:K.lookup f17=some ⟨oc17,od17,.func (W.fnOf "__init__" "Cursor.__init__" (defArgs (inClass (top 113) 0)) (defBody (inClass (top 113) 0)) (defScope (inClass (top 113) 0)) .none kV17 dc17 pm17 an17 cd17 ct17),sl17⟩)
  (a18:W.findIn K (.ref kC_Cursor) "at_end"=some (some (.ref f18))) (i18:W.isFn K (.ref f18)=true) (l18:K.lookup f18=some ⟨oc18,od18,.func (W.fnOf "at_end" "Cursor.at_end" (defArgs (inClass (top 113) 1)) (defBody (inClass (top 113) 1)) (defScope (inClass (top 113) 1)) .none kV18 dc18 pm18 an18 cd18 ct18),sl18⟩)
  (a19:W.findIn K (.ref kC_Cursor) "take"=some (some (.ref f19))) (i19:W.isFn K (.ref f19)=true) (l19:K.lookup f19=some ⟨oc19,od19,.func (W.fnOf "take" "Cursor.take" (defArgs (inClass (top 113) 3)) (defBody (inClass (top 113) 3)) (defScope (inClass (top 113) 3)) .none kV19 dc19 pm19 an19 cd19 ct19),sl19⟩)
  (a20:W.findIn K (.ref kC_Cursor) "passes"=some (some (.ref f20))) (i20:W.isFn K (.ref f20)=true) (l20:K.lookup f20=some ⟨oc20,od20,.func (W.fnOf "passes" "Cursor.passes" (defArgs (inClass (top 113) 4)) (defBody (inClass (top 113) 4)) (defScope (inClass (top 113) 4)) .none kV20 dc20 pm20 an20 cd20 ct20),sl20⟩)
  (a41:W.findIn K (.ref kC_Cursor) "sees"=some (some (.ref f41))) (i41:W.isFn K (.ref f41)=true) (l41:K.lookup f41=some ⟨oc41,od41,.func (W.fnOf "sees" "Cursor.sees" (defArgs (inClass (top 113) 2)) (defBody (inClass (top 113) 2)) (defScope (inClass (top 113) 2)) .none kV41 dc41 pm41 an41 cd41 ct41),sl41⟩)
  (a60:W.nsIn K mainGlobals "undone"=some (some (.ref f60))) (l60:K.lookup f60=some ⟨oc60,od60,.func (fo "undone" (top 22) (.ref T60) kV60 dc60 pm60 an60 cd60 ct60),sl60⟩)
  (d60:K.lookup T60=some ⟨ocT60,odT60,.seq #[.str (ofString "") dt60_0] nT60,slT60⟩)
  {dt67_0:Tok}
  (a67:W.nsIn K mainGlobals "taken_text"=some (some (.ref f67))) (l67:K.lookup f67=some ⟨oc67,od67,.func (fo "taken_text" (top 124) (.ref T67) kV67 dc67 pm67 an67 cd67 ct67),sl67⟩)
  (d67:K.lookup T67=some ⟨ocT67,odT67,.seq #[.none] nT67,slT67⟩)
  {dt79_0:Tok}
  (a79:W.nsIn K mainGlobals "taken_filled_text"=some (some (.ref f79))) (l79:K.lookup f79=some ⟨oc79,od79,.func (fo "taken_filled_text" (top 123) (.ref T79) kV79 dc79 pm79 an79 cd79 ct79),sl79⟩)
  (d79:K.lookup T79=some ⟨ocT79,odT79,.seq #[.none] nT79,slT79⟩)
  {dt95_0:Tok}
  {dt95_1:Tok}
  (a95:W.nsIn K mainGlobals "made_address"=some (some (.ref f95))) (l95:K.lookup f95=some ⟨oc95,od95,.func (fo "made_address" (top 110) (.ref T95) kV95 dc95 pm95 an95 cd95 ct95),sl95⟩)
  (d95:K.lookup T95=some ⟨ocT95,odT95,.seq #[.none,.none] nT95,slT95⟩)
  {qa0_NAMED_WORDS:Addr}{qd0_NAMED_WORDS:Option Addr}{qn0_NAMED_WORDS:Nat}{qs0_NAMED_WORDS:Array (Option Value)}{qt0_0_NAMED_WORDS:Tok}{qt1_0_NAMED_WORDS:Tok}{qt2_0_NAMED_WORDS:Tok}{qt3_0_NAMED_WORDS:Tok}
  (e_NAMED_WORDS:W.nsIn K mainGlobals "NAMED_WORDS"=some (some (.ref qa0_NAMED_WORDS)))
  (y0_NAMED_WORDS:K.lookup qa0_NAMED_WORDS=some ⟨.type "tuple",qd0_NAMED_WORDS,.seq #[.str (ofString "number") qt0_0_NAMED_WORDS,.str (ofString "word") qt1_0_NAMED_WORDS,.str (ofString "gap") qt2_0_NAMED_WORDS,.str (ofString "rest") qt3_0_NAMED_WORDS] qn0_NAMED_WORDS,qs0_NAMED_WORDS⟩)
  {qa0_WRITTEN_WORDS:Addr}{qd0_WRITTEN_WORDS:Option Addr}{qn0_WRITTEN_WORDS:Nat}{qs0_WRITTEN_WORDS:Array (Option Value)}{qt0_0_WRITTEN_WORDS:Tok}{qt1_0_WRITTEN_WORDS:Tok}{qt2_0_WRITTEN_WORDS:Tok}
  (e_WRITTEN_WORDS:W.nsIn K mainGlobals "WRITTEN_WORDS"=some (some (.ref qa0_WRITTEN_WORDS)))
  (y0_WRITTEN_WORDS:K.lookup qa0_WRITTEN_WORDS=some ⟨.type "tuple",qd0_WRITTEN_WORDS,.seq #[.str (ofString "number") qt0_0_WRITTEN_WORDS,.str (ofString "word") qt1_0_WRITTEN_WORDS,.str (ofString "rest") qt2_0_WRITTEN_WORDS] qn0_WRITTEN_WORDS,qs0_WRITTEN_WORDS⟩)
  {qa_WORTH_OF_WORDS:Addr} (e_WORTH_OF_WORDS:W.nsIn K mainGlobals "WORTH_OF_WORDS"=some (some (.ref qa_WORTH_OF_WORDS)))
  (yl_WORTH_OF_WORDS:PyProof.Rows.KTD.tabLook PyProof.Rows.KTD.flatLooks (λa=>K.lookup a) qa_WORTH_OF_WORDS iN=true) (yh_WORTH_OF_WORDS:PyProof.Rows.KTD.hashesOf (λa=>K.lookup a) qa_WORTH_OF_WORDS=iN.map λp=>hashStr w p.1)
  (pg_Cursor:W.plainGet K kC_Cursor Str.empty=true)
  (hd_Cursor:W.hasDictIn K kC_Cursor=true)
  (po_Cursor:W.plainOver K kC_Cursor=true)
  (sa_Cursor:W.findIn K (.ref kC_Cursor) "__setattr__"=some (some (.builtin "object.__setattr__")))
  (mk_Cursor:W.makesIn K kC_Cursor=true)
  (kc_Cursor:W.keepIn K (.ref kC_Cursor)=true)
  (nf_Cursor_text:W.findIn K (.ref kC_Cursor) "text"=some none)
  (nf_Cursor_place:W.findIn K (.ref kC_Cursor) "place"=some none)
  (kk:((((W.keepIn K (.ref f17) && W.keepIn K (.ref f18)) && W.keepIn K (.ref f19)) && (W.keepIn K (.ref f20) && W.keepIn K (.ref f41))) && ((W.keepIn K (.ref f60) && W.keepIn K (.ref f67)) && (W.keepIn K (.ref f79) && W.keepIn K (.ref f95))))=true)
  (cc:((((W.codeIn K cd17 "Cursor.__init__" && W.codeIn K cd18 "Cursor.at_end") && W.codeIn K cd19 "Cursor.take") && (W.codeIn K cd20 "Cursor.passes" && W.codeIn K cd41 "Cursor.sees")) && ((W.codeIn K cd60 "undone" && W.codeIn K cd67 "taken_text") && (W.codeIn K cd79 "taken_filled_text" && W.codeIn K cd95 "made_address")))=true) :
  ∃fd:FuncData,(∀(s:Shared) (v:Value),BindsTo s fd ⟨[v],[]⟩ [("_law_script",v)])/\∀base:Heap,K.In base->base.Ns mainGlobals mg->FnOk l.prog w K mg base CX0 11 fa fd ["_law_script"] (sp_law K):=by
 have e2:d.f_law.a=fa:=by have e:=hfa.symm.trans d.f_law.m;cases e;rfl
 subst e2;have M:∀{x:Str}{v:Value},W.nsIn K mainGlobals x=some (some v)->mg x=some v:=λa=>W.mg_of X Gl a;simp only[Bool.and_eq_true] at kk cc;obtain⟨⟨⟨⟨EZ,EY⟩,EX⟩,⟨EW,Cl⟩⟩,⟨⟨BT,mt⟩,⟨ld,dl⟩⟩⟩:=kk;obtain⟨⟨⟨⟨Fj,Fi⟩,Fh⟩,⟨Fg,Ff⟩⟩,⟨⟨Fe,Fc⟩,⟨Fb,Fa⟩⟩⟩:=cc;have F17:=bV (st:=(inClass (top 113) 0)) l17 Fj EZ;have F18:=bV (st:=(inClass (top 113) 1)) l18 Fi EY;have F19:=bV (st:=(inClass (top 113) 3)) l19 Fh EX;have F20:=bV (st:=(inClass (top 113) 4)) l20 Fg EW;have F41:=bV (st:=(inClass (top 113) 2)) l41 Ff Cl;have F60:=dN (st:=(top 22)) l60 Fe BT;have F67:=dN (st:=(top 124)) l67 Fc mt;have F79:=dN (st:=(top 123)) l79 Fb ld;have F95:=dN (st:=(top 110)) l95 Fa dl
 let g:G w K mg:={
  toD:=d,
  eU:=f17,eV:=_,pA:=F17,
  pB:=F17.binds (by fail "b2"),
  eW:=f18,eY:=_,pC:=F18,ip:=⟨a18,i18,F18.kp⟩,
  ij:=F18.binds (by fail "b1"),
  ee:=f19,eg:=_,pE:=F19,bv:=⟨a19,i19,F19.kp⟩,
  bt:=F19.binds (by fail "b1"),
  eh:=f20,ek:=_,pF:=F20,ax:=⟨a20,i20,F20.kp⟩,
  aw:=F20.binds (by fail "b2"),
  el:=f41,eo:=_,pG:=F41,cr:=⟨a41,i41,F41.kp⟩,
  ci:=F41.binds (by fail "b2"),
  eu:=f60,cj:=_,pH:=T60,pI:=dt60_0,ck:=F60,f6:=M a60,
  f7:=F60.binds (ps:=["text","free"]) (ds:=[]) d60 λ_ _ _ _ _ _ us hl=>by rw[append_nil] at hl;obtain⟨x0,x1,e⟩:=usl2 hl;subst e;exact⟨_,rfl,rfl⟩,
  Dw:=F60.binds (ps:=["text","free"]) (ds:=[.str (ofString "") dt60_0]) d60 λ_ _ _ _ _ _ us hl=>by obtain⟨x,rfl⟩:=wK hl;exact⟨_,rfl,rfl⟩,
  f8:=f67,cm:=_,pJ:=T67,Dx:=dt67_0,bQ:=F67,bd:=M a67,
  pK:=F67.binds (ps:=["cursor","free","most"]) (ds:=[]) d67 λ_ _ _ _ _ _ us hl=>by rw[append_nil] at hl;obtain⟨x0,x1,x2,e⟩:=usl3 hl;subst e;exact⟨_,rfl,rfl⟩,
  bu:=F67.binds (ps:=["cursor","free","most"]) (ds:=[.none]) d67 λ_ _ _ _ _ _ us hl=>by obtain⟨x,y,rfl⟩:=lE hl;exact⟨_,rfl,rfl⟩,
  f9:=f79,cn:=_,pL:=T79,Dy:=dt79_0,fA:=F79,ik:=M a79,
  pN:=F79.binds (ps:=["cursor","free","most"]) (ds:=[]) d79 λ_ _ _ _ _ _ us hl=>by rw[append_nil] at hl;obtain⟨x0,x1,x2,e⟩:=usl3 hl;subst e;exact⟨_,rfl,rfl⟩,
  pM:=F79.binds (ps:=["cursor","free","most"]) (ds:=[.none]) d79 λ_ _ _ _ _ _ us hl=>by obtain⟨x,y,rfl⟩:=lE hl;exact⟨_,rfl,rfl⟩,
  fB:=f95,cq:=_,pO:=T95,Dz:=dt95_0,DA:=dt95_1,io:=F95,pP:=M a95,
  pQ:=F95.binds (ps:=["table","base","name","values","question","mark"]) (ds:=[]) d95 λ_ _ _ _ _ _ us hl=>by rw[append_nil] at hl;obtain⟨x0,x1,x2,x3,x4,x5,e⟩:=usl6 hl;subst e;exact⟨_,rfl,rfl⟩,
  DB:=F95.binds (ps:=["table","base","name","values","question","mark"]) (ds:=[.none,.none]) d95 λ_ _ _ _ _ _ us hl=>by obtain⟨x0,x1,x2,x3,rfl⟩:=usl4 (show us.length=4 by rw[length_append] at hl;exact Nat.add_right_cancel (m:=2) hl);exact⟨_,rfl,rfl⟩,
  fC:=qa0_NAMED_WORDS,pT:=W.mg_of X Gl e_NAMED_WORDS,pU:=λH=>(.tup (xs:=[.str (ofString "number"),.str (ofString "word"),.str (ofString "gap"),.str (ofString "rest")]) (.inr ⟨_,_,_,y0_NAMED_WORDS,rfl,rfl,(by show 4<=sizeLine;decide),(.cons ⟨_,rfl⟩ (.cons ⟨_,rfl⟩ (.cons ⟨_,rfl⟩ (.cons ⟨_,rfl⟩ .nil))))⟩) (.cons (.str _) (.cons (.str _) (.cons (.str _) (.cons (.str _) .nil))))),
  fD:=qa0_WRITTEN_WORDS,pV:=W.mg_of X Gl e_WRITTEN_WORDS,pW:=λH=>(.tup (xs:=[.str (ofString "number"),.str (ofString "word"),.str (ofString "rest")]) (.inr ⟨_,_,_,y0_WRITTEN_WORDS,rfl,rfl,(by show 3<=sizeLine;decide),(.cons ⟨_,rfl⟩ (.cons ⟨_,rfl⟩ (.cons ⟨_,rfl⟩ .nil)))⟩) (.cons (.str _) (.cons (.str _) (.cons (.str _) .nil)))),
  fE:=qa_WORTH_OF_WORDS,pX:=W.mg_of X Gl e_WORTH_OF_WORDS,pY:=λP h hI=>PyProof.Rows.KTD.strTab_of_look P w hI yl_WORTH_OF_WORDS (by decide) yh_WORTH_OF_WORDS,
  aH:=kC_Cursor,aI:=⟨pg_Cursor,hd_Cursor,po_Cursor,sa_Cursor⟩,pR:=W.mg_of X Gl aC_Cursor,
  bJ:=nf_Cursor_text,
  ai:=nf_Cursor_place,
  pS:=⟨mk_Cursor,a17,i17,kc_Cursor⟩}
 refine⟨d.f_law.fd,λs v=>?_,λbase _ _=>ES g⟩;obtain⟨_,_,_,_,_,_,_,_,_,e,_⟩:=d.f_law.F.ex;rw[e];exact .of_eq rfl
theorem walk {l:PySem.W.OpenLaw}{q:Program}{loose:List Str}{XP:(Str->Option Value)->Heap->Prop}{YP:World->Heap->Prop}{d:DefRec}{K:Params->W.Frag}(hn:l.most=some 63)(hdf:d.params.defaults=[])
  (hY:∀(w:World) (h:Heap),YP w h->(K w.params).In h)
  (F:∀(w:World) (mg:Str->Option Value) (fa:Addr) (h:Heap),(K w.params).In h->h.Ns mainGlobals mg->mg d.name=some (.ref fa) ->
   ∃fd:FuncData,(∀(s:Shared) (u:Value),BindsTo s fd ⟨[u],[]⟩ [("_law_script",u)])/\∀base:Heap,(K w.params).In base->base.Ns mainGlobals mg->FnOk l.prog w (K w.params) mg base CX0 11 fa fd ["_law_script"] (sp_law (K w.params))) :
  PySem.W.WalkO q loose XP YP l.row.toRowW d [] (λf vs=>PySem.call f vs):=
 L2.uh (n:=63) (k:=11) (x := "_law_script") (CX:=λ_=>CX0) (sp:=λw=>sp_law (K w.params)) hn (by decide) hdf ⟨rfl,by decide,by decide⟩ hY F (λ_ _ a ns hl _ hS=>⟨a,ns,rfl,hS,hl,λ_=>rfl⟩) λ_ _ _ _ _ z=>z
end Wm
structure PySem.W.Fast:Prop where(tw5663049241981808330 tw16287551200609742120 tw6804126776368136027 tw9192495084767090246 tw18023133894904339990 tw10622213899301939550 tw7142598552963989185 tw1024787531067536780 tw16587364995977006863 tw14343923959328558264 tw3142675124542769948 tw11227776256092147138 tw16795685773356827340 tw5056373216822047768 tw17505363440903469311 tw16824481935999777590 tw13131440264450565773 tw3092827440849650873 tw10007595096311333177 tw10598588998351941839 tw10171491483436247326 tw17331401081767252807 tw10065814942598859613 tw1895014293646244585 tw2701692411442511907 tw17295868280557122275 tw16240474828427048620 tw2136190498013700 tw11536617590818911533 tw8167003815162225738 tw7238398131653304979 tw13910941472004583155 tw11292660544063829188 tw18158295573135122713 tw8371252581625987015 tw2048763364756189328 tw12352076223064268411 tw306628642871680644 tw1032448357905401265 tw4566825166852122135 tw5543729657596531943 tw10076284773207221455 tw1768166780951817513 tw3001155744593344210 tw4737733945191127023 tw2220857929200911368 tw1981094980451714471 tw15727025578640490375 tw13192246389237753779 tw6036021403056072634 tw17524514895858142081 tw8074375408763357619 tw4749895404788704255 tw11974114282872004212 tw9561396541962875824 tw678286072528707459 tw16357054993872793875 tw1547146187606648524 tw181098116553623392 tw1564252538253079258 tw4424926263928028053 tw4492740426633529412 tw12961911000611435259 tw8452676152872658416 tw8821508330743624810 tw5272586588608851946 tw2609350820088716626 tw3971265764693816939 tw7026588779252305100 tw7002277777288541715 tw3817727616716011185 tw3859450131394587628 tw3955322802657969179 tw12232182943440386998 tw14665941628976304161 tw10692623846218268371 tw3643904422252822471 tw7497365048806081552 tw2162931043544546648 tw12702486585033093866 tw4531188349119527946 tw14762767767820346985 tw16910694690668170488 tw666820089804523901 tw5191990758419459178 tw3513928803839048407 tw6226640241346148078 tw8584263618744264303 tw13836812336409357360 tw15266283302402694842 tw362184746648784720 tw9505646494732471258 tw13557783111653702374 tw8157960148053266281 tw3586786169521326778 tw14707524495060353224 tw13683851737395558193 tw13280355965211849725 tw16442027241876576051 tw6812388526016057435 tw1680557683848257266 tw16426589073415874973 tw3845745138231043361 tw123898087508992627 tw12517834019627363606 tw5480509739313622333 tw13818810634990731956 tw3610066572478239518 tw7395419311308277126 tw4558329469985688137 tw662823114433674205 tw4200054519673224169 tw5909194224740610929 tw17782664508502843894 tw1897180692431254023 tw13087842551717469044 tw9797411988274705396 tw17466944534212902596 tw760617116031448193 tw3729027031837180839 tw3942709741163055570 tw8578634393569678182 tw14423613675812995486 tw5413719920447668889 tw17491009148753740866 tw17939367971853902467 tw1742209420735330612 tw28558799259645795 tw11016209423467110642 tw10082420907600760185 tw10627062457890091725 tw10615054318382379270 tw12204422820747908674 tw16269543369658556975 tw8432067123359515227 tw17987948425607911048 tw15895934669413802420 tw4418084496943982232 tw18091775391834830557 tw2474170151973526721 tw5390141098212833238 tw1606829254977033467 tw6929004058521295680 tw11484387117305134599 tw18442859006093113544 tw15675894175721910267 tw13497387061426623517 tw16755876237232428397 tw7107898094919125025 tw12947156326216626462 tw11359337315639516705 tw7557448320978499050 tw15523296742680606038 tw7100146192127292741 tw7185369030945168767 tw14416485232010350757 tw2585191756874942410 tw17373738438823180941 tw9447658924319634945 tw18413205081243984639 tw16296090576199440006 tw13654895373798142602 tw12795645240440538851 tw10477387209006264777 tw8575415950916299938 tw15288083113350012822 tw17269348354408182379 tw11166884528991426520 tw12377353809161444555 tw1012544185840694925 tw1386163137781181994 tw14731568999238847922 tw1398619560699013142 tw11629876324760251281 tw761774498259463365 tw2833808918284998034 tw2700807754649718712 tw4922632635001783992 tw556499713843859776 tw12070188471512967235 tw11090355494628665375 tw5258843506785274191 tw1686657731612421479 tw18130963873535348300 tw4556720325357549777 tw17192376825496294564 tw1880903865661384473 tw12113440130904091182 tw6723092359059642382 tw2131834204529056328 tw5019299743279287992 tw15044600494757091405 tw14381918607587149704 tw3869362181935170347 tw8055146010943977771 tw16883179368903946806 tw3275772950552811821 tw2229418380681821614 tw948408064363389216 tw1050794735864628083 tw1321094396724476401 tw4992407658554128109 tw9927764445389624843 tw8883840931542042322 tw1433200837303403480 tw16677744790064524543 tw12857522755421013400 tw6107341490772777792 tw11220297637969289738 tw5283739542339979745 tw17021103611391522642 tw13496615943833823668 tw18296598635640306209 tw6745267532769574626 tw17116528020329942766 tw13066276217879969127 tw18399652413465149331 tw10281073100739721516 tw9612472398111143684 tw8253370845283822366 tw17644858422317655848 tw14327344475723892694 tw479267439284252601 tw2495097992760029868 tw3019743338913836709 tw7776124633049549264 tw4489033812364587709 tw17838376419431969169 tw7277407575377183212 tw103978611480640247 tw1310345294079725397 tw13201839705691255035 tw14911233810558409626 tw3347535625969481449 tw10531876762732424632 tw6491996531612608498 tw3911123849427490094 tw11282527890918757941 tw9316790863459460829 tw9077638753513439861 tw1807026148093781214 tw17950071486592324633 tw7030903642533109294 tw3702857836546509117 tw5965197859938388045 tw16235907128696020890 tw2152570586102964749 tw11784970080683735066 tw783995571986904842 tw17216360388604391508 tw8253224447023829122 tw1633157472923050725 tw5342678237825665453 tw17768163240568871704 tw15219020246182763943 tw13899599178516372368 tw17566100178855054998 tw7859152800104655080 tw9665260570759437745 tw2873115881377802294 tw9487445946795840137 tw6738666210379758367 tw6632550597650899754 tw13891933068377873381 tw9700176594555988598 tw14867619131389428618 tw428412714807701262 tw53806882960512357 tw8683429466239913577 tw15559395582081529826 tw15021544839731939533 tw3838306956018615389 tw10010936022096267887 tw15944459320459185033 tw18419780507506422314 tw15008668847308604290 tw2544766942486376052 tw1927542494800258387 tw6421726733539827559 tw17484061908895928515 tw12830229605474645318 tw12448945109771757960 tw201532759734381705 tw15091672652754971276 tw8595674494833962212 tw7322243778934556140 tw17559735615367818207 tw9875644282101289185 tw4378642436826172066 tw2637350368142649136 tw14598560955719196277 tw14883170052323349318 tw4714393650859157018 tw2760893838779056912 tw7541799148750351682 tw5369560276800672101 tw17141679803726462980 tw9496695259676119968 tw10635156375314522827 tw4613946910864165588 tw13335140849638980550 tw11176082260412007698 tw18384900235163751331 tw13498144974063702922 tw8722479522429710768 tw8373949146178024136 tw16752737455674832675 tw6848741703074089242 tw9988504787780972171 tw4936585503773930085 tw13524668854267720835 tw8782174229005466707 tw8615652518101995280 tw2562067575899059434 tw10575046638439285656 tw18343769253240391430 tw9162906273071887551 tw15177785830690742467 tw16950338840287774264 tw15800246053231846521 tw14965774600401843842 tw10538254414228913893 tw13700682273112467587 tw14121655289875441664 tw9085087914842717306 tw7461927823373022318 tw5576219375436706141 tw10357504001030536631 tw4735174624591492047 tw5170965166146913078 tw11923718798607526253 tw2278094880988989497 tw1531440915708682394 tw11834605974390827178 tw7014885651894724900 tw14635381524132549403 tw7762125858671351370 tw5721208642088227645 tw12118607969022007845 tw13374630992498653716 tw8724385359850801453 tw11047440569034267357 tw3902981281174762613 tw11707880329391721628 tw16128834519667157947 tw12301380341430629215 tw11373625277932868807 tw4597137653640461505 tw12322661507989605235 tw7669247075145726486 tw16347458329796465186 tw3222159376117521922 tw16103656864686459783 tw4192551850797714715 tw17410930338406001521 tw7374444133202116521 tw3292154462290225691 tw5816187006528549331 tw2304421923309516402 tw6857480287977242776 tw5986251863596555926 tw13990768362886302454 tw7926329588214377994 tw14083285113771572372 tw7363846707454700670 tw9269682134105089109 tw8364028635480469042 tw4430013262168906990 tw15969068425942904274 tw9992568418910591062 tw16125012918390226065 tw289431381431483740 tw12898739912586565912 tw6169110005069066996 tw5859112240904535804 tw15808826168388421951 tw14624678968738265128 tw10196542334921046814 tw1489615745879363629 tw298778880576166171 tw15521483147028061417 tw15181671122090492493 tw15640643729804180026 tw16477996362441931163 tw2399275009042971062 tw8315114556033690648 tw13093410831391790984 tw13949566417744350718 tw2166458710523757927 tw12311663852382225427 tw12411336447062683570 tw518260610953884063 tw5797036843415958421 tw7058613385383641359 tw3661497063291604604 tw415655398960042502 tw10590993949311470265 tw12241210139636189848 tw546677277861406293 tw9977996202143368605 tw13951142807316995341 tw8717915690754038852 tw13495874891618934187 tw11367383166242513649 tw16539623528887943550 tw15487783581898185814 tw16933459664869759491 tw9509178937681148916 tw5512551607949834388 tw16627691453327044012 tw13320044109083883740 tw12165304639806581044 tw11673990348270245645 tw14940788043091608279 tw11311465107332964159 tw16996106862484532021 tw2976986368948778580 tw11120447125216271664 tw10610371079849969760 tw7570968459149220157 tw8004627442955657579 tw15646290582675785206 tw758816049784749794 tw16827880501718923975 tw4011219523468954144 tw16255039073296834303 tw10833960893632303600 tw17796604556402881103 tw3452477428758274711 tw5142130247824575136 tw16299964514030101387 tw9921543624614405690 tw12346265952502809587 tw13818189563223512681 tw2499250774019410558 tw5348047670110402557 tw5651811140370403742 tw9028515493562932876 tw3266626735882068862 tw11558700988986490315 tw11406102130465819608 tw5478760915044569024 tw6622542583892564475 tw12089776381193384290 tw13499664269821660077 tw2391497963528831645 tw10588550786935118652 tw8177966563467629885 tw13856235341739338770 tw9499266422219185502 tw4925401691173474357 tw10927662634329946091 tw1267634809657365214 tw8034911686670534757 tw5291652348476186726 tw11466062503388088992 tw1691273017385153926 tw2477381459414548600 tw6279381011203832426 tw7103548099641105954 tw12918107515679321412 tw10428760115646825200 tw4160096765043019919 tw8606744507926368994 tw10726281243994621304 tw7002308713673475116 tw15120657406183202329 tw9446341987489968487 tw14281719635508793016 tw16966980440648915141 tw9843350014922815992 tw12475965822736132072 tw185025547452483680 tw1902671025126011130 tw2153433602548595271 tw16653844988415537802 tw6348811184581272577 tw2295978782733325361 tw3927186783836632354 tw18393060577605313274 tw5717682524916381207 tw650968828958630219 tw1259727527668587949 tw13551255611380699749 tw9036269522291821202 tw1462001774336934934 tw17964996727661965696 tw4479347269724827315 tw7156467952889170543 tw18330272596906769144 tw14478592062240704799 tw15816279774001362293 tw2909961053696523166 tw10478131064028463520 tw9250066021178779828 tw13654105397229577433 tw2795755445773404209 tw4802937038008288877 tw1160891021412565841 tw11594446570298069860 tw2930789764500733413 tw3898762751476092184 tw13034006070718597183 tw1197727631047732770 tw16365849647221248661 tw66781651751484245 tw10938343765445992398 tw11412362292637596917 tw2067754504778168440 tw9131654568462854312 tw12683319243914270130 tw5360525427154654790 tw8935819241566925537 tw6298204444550351 tw17276609655236154227 tw9050780022456295733 tw376453948182654520 tw8166053711368596264 tw7083959678795547909 tw9925939577135484824 tw10862821297097137020 tw336088687123690557 tw13240969947974091971 tw9749440640001161304 tw3732352442452792348 tw10180561832021919393 tw15196822230894351099 tw11155878244175231521 tw17975044535531829061 tw5704368027836714440 tw1498287913886928592 tw7012869910178688278 tw11731272022191039427 tw292564791277755679 tw4326507515972807106 tw15348289948290128059 tw13877105415423398291 tw18096871970254496392 tw13059733097504450344 tw11144267833917726051 tw5688746190695031223 tw11770448343329746885 tw17347336144539984094 tw6061398304643987047 tw3511143593701785388 tw1299522964490540983 tw7504532440273909206 tw14801706438477981984 tw1197585645608717973 tw2737245525507708625 tw16441703628328331376 tw4189580478557544220 tw6539088578259487567 tw12281527967879022157 tw13781841343510650503 tw4759136295898829708 tw15267337718700549166 tw12152667730480748039 tw12922923834165187673 tw16180191648081255020 tw11429610608907250423 tw5326383439763211433 tw7932770529719578662 tw11068584948658884844 tw12520054227475992537 tw643746040466072301 tw17555559615231052316 tw7142185874505672204 tw13911963410533416978 tw482956020837221538 tw1026815930405477067 tw4929548668901724560 tw14285757404576274806 tw14602956720840425496 tw10727540077246882970 tw2869343329476068279 tw7053306353584660177 tw596128283813607270 tw11064418030709399100 tw2889351217757300472 tw10752794555282736283 tw7377574605839331033 tw3173008490317509490 tw14301755704801352962 tw4172165733810650831 tw2299840690420147587 tw10065341760653633113 tw7638596901724909544 tw1367388641983675664 tw12656099508599162132 tw11413269924144856130 tw2663927196306910139 tw11023086518836973467 tw1345674359542652877 tw10113958938726967829 tw14122085891718802364 tw7375256923239632830 tw12539899058595328832 tw12915113411304492638 tw14066139974304858150 tw12037688825640157125 tw17589779204311197677 tw7084012295095157409 tw1796436785285852003 tw12835134313347283775 tw15226742844754069356 tw17897938222659350791 tw7754460508313993632 tw9907958755187624108 tw545047130430743257 tw8949027855780877965 tw4086131303681048985 tw8181560647100566766 tw7229151362530955214 tw3970996914574090241 tw10670501913461592228 tw12912039611665632543 tw10467422610875600798 tw1544523778628370250 tw2800600194001632699 tw18149569517856657678 tw11730451016784189979 tw7031602978369863628 tw18203489827151774110 tw8748178418135618895 tw10594471207447615599 tw12206105008224501041 tw18235240545098590989 tw8304340796327704457 tw12147592981485005359 tw2479899681116475449 tw7817920986122903308 tw10461028065340881389 tw12294799903044237823 tw7261038885137534287 tw9501474330373493422 tw16692050318286682259 tw4429687076244358361 tw3395704544166532625 tw9747625496200212192 tw5846268387880317624 tw15814636941837074422 tw16096601433967559359 tw202474759789808174 tw16210381447299285440 tw17113486697249186313 tw18087732318953394028 tw4465640490682463461 tw13536895936078075930 tw16617266044913888379 tw16149979307050420865 tw3473385724976240201 tw1549091069157181892 tw17964986257988432482 tw17803977930282232749 tw8621223510475751079 tw15405313173576509535 tw10339271169138121435 tw11956632954482531647 tw12207458486208649097 tw12201335354685212290 tw13390253123574000266 tw1997831870951592231 tw10357034824489037425 tw325602053975210547 tw6430116243935261254 tw8605559017107046181 tw7816364176749318148 tw14557304264176156716 tw4875962608642461473 tw11897051204023757126 tw17367533713555575991 tw15442972025428797724 tw16119265593354956452 tw14115870550622367768 tw3281700684003596901 tw2722097144657515829 tw8568086889705882004 tw9084986177543734523 tw4741408311144583374 tw16423027095166418665 tw16454704194397294630 tw9362243170505430236 tw191817632186976580 tw16671251441706571625 tw10429524842457225677 tw11602766632711245720 tw4526990754255109291 tw1189345758969793339 tw12983434172519821060 tw10740345203888757456 tw16262017920825294799 tw4270762798921658833 tw11702491778341063886 tw17197734049406587410 tw12584996981698478813 tw13700095512697014355 tw1993474106919165030 tw5643527333313598522 tw7006197522176531478 tw11880822549957814073 tw4342666681019411750 tw13254861271696834222 tw6905455622822600566 tw14889237880614577420 tw2881985892533827243 tw2536533124519659560 tw5539375693574096439 tw10961733898787345286 tw3661661426657890005 tw5321425700053570849 tw17395994478077409361 tw2847353650597600393 tw6359740157277179334 tw2435158438576091241 tw1735206355602257759 tw15271256752255963693:True)
open PySem PySem.W PyProof.Rows
set_option maxRecDepth 100000 in
set_option maxHeartbeats 0 in
theorem PySem.Challenge.cw_waymark_k94_whole_filled_and_led_back_holds : PySem.Challenge.rw_waymark_k94_whole_filled_and_led_back.Holds := by
 w_on; o_law; k_head; (case hw => w_witness2)
 k_fill
 refine Wm.walk (l := PySem.Challenge.rw_waymark_k94_whole_filled_and_led_back) rfl rfl (fun w h Y => PySem.W.kIn_of Y) ?F
 case F =>
  intro w mg fa h KX G hmg
  refine' Wm.ET (dt67_0 := 0) (dt79_0 := 0) (dt95_0 := 0) (dt95_1 := 0) KX G hmg ?d ?aC_Cursor ?a17 ?i17 ?l17 ?a18 ?i18 ?l18 ?a19 ?i19 ?l19 ?a20 ?i20 ?l20 ?a41 ?i41 ?l41 ?a60 ?l60 ?d60 ?a67 ?l67 ?d67 ?a79 ?l79 ?d79 ?a95 ?l95 ?d95 ?e_NAMED_WORDS ?y0_NAMED_WORDS ?e_WRITTEN_WORDS ?y0_WRITTEN_WORDS ?e_WORTH_OF_WORDS ?yl_WORTH_OF_WORDS ?yh_WORTH_OF_WORDS ?pg_Cursor ?hd_Cursor ?po_Cursor ?sa_Cursor ?mk_Cursor ?kc_Cursor ?nf_Cursor_text ?nf_Cursor_place ?kk ?cc
  case d =>
   constructor
   (case iU | iV | oO | oP | iW | eM | eO | iX | oQ | oR | oS | oU | iY | oW | iZ | oX | oY | ia | oZ | oa | ib | eQ | ic | og | oh | oi | oj | c_UP | bP | eR | on | oo | oq | ou | ow => first | (refine' L2.C3 (PySem.W.mg_of KX G ?a); case a => k_is) | (refine' L2.C4 (PySem.W.mg_of KX G ?a); case a => k_is))
   (case bq | ie | aK | au | av | ig | cf | cg | b8 | oy | ii | br | oz | eS => refine' ⟨PySem.W.mg_none_of KX G ?a, ?b⟩; (case a => k_is); (case b => with_unfolding_all rfl))
   all_goals
    refine' L2.BY KX G ?a ?l ?c ?k ?b
    (case a | l => k_is)
    (case c | k => first | k_is | with_unfolding_all kernel_rfl | with_unfolding_all rfl)
    case b =>
     intro _ _ _ _ _ _ us hl
     first
     | (obtain e := Wm.usl0 hl; subst e; rfl)
     | (obtain ⟨_, e⟩ := Wm.usl1 hl; subst e; rfl)
     | (obtain ⟨_, _, e⟩ := Wm.usl2 hl; subst e; rfl)
     | (obtain ⟨_, _, _, e⟩ := Wm.usl3 hl; subst e; rfl)
     | (obtain ⟨_, _, _, _, e⟩ := Wm.usl4 hl; subst e; rfl)
     | (obtain ⟨_, _, _, _, _, e⟩ := Wm.usl5 hl; subst e; rfl)
     | (obtain ⟨_, _, _, _, _, _, e⟩ := Wm.usl6 hl; subst e; rfl)
  (case aC_Cursor | a17 | i17 | l17 | a18 | i18 | l18 | a19 | i19 | l19 | a20 | i20 | l20 | a41 | i41 | l41 | a60 | l60 | d60 | a67 | l67 | d67 | a79 | l79 | d79 | a95 | l95 | d95 | e_NAMED_WORDS | y0_NAMED_WORDS | e_WRITTEN_WORDS | y0_WRITTEN_WORDS | e_WORTH_OF_WORDS => k_is)
  (case yl_WORTH_OF_WORDS | yh_WORTH_OF_WORDS => first | k_is | with_unfolding_all kernel_rfl | with_unfolding_all rfl)
  (case pg_Cursor | hd_Cursor | po_Cursor | sa_Cursor | mk_Cursor | kc_Cursor | nf_Cursor_text | nf_Cursor_place => k_is)
  (case kk | cc => first | k_is | with_unfolding_all kernel_rfl | with_unfolding_all rfl)
