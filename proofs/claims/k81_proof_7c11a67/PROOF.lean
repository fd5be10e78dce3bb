import PyProof.Rows.All
import Wide.All
import OpenK.AllK
import Wide.FinOn
import Lean
import PyProof.EqAt
import PyProof.EqKinds
import PyProof.TupleCall
import KE.KSortTup
import KE.KDictSum
import KE.KDictOf
import PyProof.AttrMissHeap
import PyProof.WalksEnum
import PyProof.EnumMake
import PyProof.Draws
import PyProof.Rows.SetFrom
import KE.KTryOn
import KE.KTryDeep
import PySem.Challenge.RW_rootshares_k81_tables_and_determinants
set_option Elab.async false
set_option linter.all false
set_option maxRecDepth 100000
namespace L2
open PySem PySem.Spec PyProof.Rows
noncomputable abbrev Key:=Sum Int Str
noncomputable def cD:Key->Value->Bool
 | .inl k,v=>Value.isInt k v
 | .inr x,v=>Value.isStrOf x v
noncomputable def rj (w:World):Key->Int
 | .inl k=>hashInt k
 | .inr x=>hashStr w x
theorem bR:∀{k:Key}{v:Value},cD k v=true->(∃i t,k=Sum.inl i/\v=Value.int i t)\/(∃x t,k=Sum.inr x/\v=Value.str x t)
 | .inl i,v,h=>by
  obtain⟨t,e⟩:=Value.isInt_shape (k:=i) (v:=v) h
  exact .inl ⟨i,t,rfl,e⟩
 | .inr x,v,h=>by
  obtain⟨t,e⟩:=Value.isStrOf_shape (x:=x) (v:=v) h
  exact .inr ⟨x,t,rfl,e⟩
theorem mx (i:Int) (t:Tok):cD (.inl i) (.int i t)=true:=by simp [cD,Value.isInt]
theorem mE (x:Str) (t:Tok):cD (.inr x) (.str x t)=true:=by simp [cD,Value.isStrOf]
theorem pF (a b:Int):decide ((Sum.inl a:Key)=Sum.inl b)=(a == b):=by
 by_cases e:a=b
 ·subst e;simp
 ·have h:¬ (Sum.inl a:Key)=Sum.inl b:=fun q=>e (Sum.inl.inj q)
  rw [decide_eq_false h]
  exact (beq_eq_false_iff_ne.mpr e).symm
theorem pL (a b:Str):decide ((Sum.inr a:Key)=Sum.inr b)=decide (a=b):=by
 by_cases e:a=b
 ·subst e;simp
 ·have h:¬ (Sum.inr a:Key)=Sum.inr b:=fun q=>e (Sum.inr.inj q)
  rw [decide_eq_false h,decide_eq_false e]
theorem p5 (a:Int) (b:Str):decide ((Sum.inl a:Key)=Sum.inr b)=false:=decide_eq_false (fun q=>nomatch q)
theorem pq (a:Str) (b:Int):decide ((Sum.inr a:Key)=Sum.inl b)=false:=decide_eq_false (fun q=>nomatch q)
noncomputable def bt (prog:Program) (w:World):PySem.KeyKind prog w Key where
 is:=cD
 hash:=rj w
 inj:=fun v a b ha hb=>by
  rcases bR ha with ⟨i,t,rfl,rfl⟩ | ⟨x,t,rfl,rfl⟩
  ·rcases bR hb with ⟨j,u,rfl,e⟩ | ⟨y,u,rfl,e⟩
   ·injection e with e1 _;rw [e1]
   ·exact nomatch e
  ·rcases bR hb with ⟨j,u,rfl,e⟩ | ⟨y,u,rfl,e⟩
   ·exact nomatch e
   ·injection e with e1 _;rw [e1]
 byValue:=fun k v h=>by
  rcases bR h with ⟨i,t,rfl,rfl⟩ | ⟨x,t,rfl,rfl⟩ <;> rfl
 pyHash:=fun hv h=>by
  rcases bR hv with ⟨i,t,rfl,rfl⟩ | ⟨x,t,rfl,rfl⟩
  ·exact wpAny_pyHash_int h
  ·exact wpAny_pyHash_str h
 eqBool:=fun hu hv h=>by
  rcases bR hu with ⟨i,t,rfl,rfl⟩ | ⟨x,t,rfl,rfl⟩
  ·rcases bR hv with ⟨j,u,rfl,rfl⟩ | ⟨y,u,rfl,rfl⟩
   ·rw [pF] at h;exact wpAny_eqBool_int h
   ·rw [p5] at h;exact SeqAt.EqAt.int_str i t y u _ _ _ _ h
  ·rcases bR hv with ⟨j,u,rfl,rfl⟩ | ⟨y,u,rfl,rfl⟩
   ·rw [pq] at h;exact SeqAt.EqAt.str_int x t j u _ _ _ _ h
   ·rw [pL] at h;exact wpAny_eqBool_str h
 «strs»:=fun k x t v h=>by
  rcases bR h with ⟨i,u,rfl,e⟩ | ⟨y,u,rfl,e⟩
  ·exact nomatch e
  ·injection e with e1 _
   subst e1
   cases v <;> rfl
theorem lh (prog:Program) (w:World) (i:Int) (t:Tok):(bt prog w).is (.inl i) (.int i t)=true:=mx i t
theorem lq (prog:Program) (w:World) (x:Str) (t:Tok):(bt prog w).is (.inr x) (.str x t)=true:=mE x t
inductive V where
 | non | bl (b:Bool) | int (i:Int) | str (x:Str) | byt (b:Array UInt8) | flt (b:UInt64) | ref (a:Addr) | ty (n:String)
 deriving DecidableEq
noncomputable def RelV:V->Value->Prop
 | .non,u=>u=Value.none
 | .bl b,u=>u=Value.bool b
 | .int i,u=>∃t,u=Value.int i t
 | .str x,u=>∃t,u=Value.str x t
 | .byt b,u=>∃t,u=Value.bytes b t
 | .flt b,u=>∃t,u=Value.float b t
 | .ref a,u=>u=Value.ref a
 | .ty n,u=>u=Value.type n
noncomputable abbrev am:List V->List Value->Prop:=Paired RelV
theorem am.length {xs:List V}{us:List Value} (r:am xs us):xs.length=us.length:=Paired.length r
theorem am.get:∀{xs:List V}{us:List Value}{i:Nat}{x:V},am xs us->xs[i]?=some x->∃u,us[i]?=some u/\RelV x u
 | _,_,_,_,.nil,e=>by simp at e
 | _,_,0,_,.cons r _,e=>by simp at e;subst e;exact⟨_,rfl,r⟩
 | _,_,i + 1,x,.cons _ t,e=>by
  obtain⟨u,h1,h2⟩:=am.get (i:=i) (x:=x) t (by simpa using e)
  exact⟨u,by simpa using h1,h2⟩
theorem am.set {x:V}{u:Value} (r:RelV x u):∀{xs:List V}{us:List Value} (i:Nat),am xs us->am (xs.set i x) (us.set i u)
 | _,_,_,.nil=>.nil
 | _,_,0,.cons _ t=>.cons r t
 | _,_,i + 1,.cons q t=>.cons q (am.set r i t)
theorem am.append:∀{xs ys:List V}{us ws:List Value},am xs us->am ys ws->am (xs++ys) (us++ws)
 | _,_,_,_,.nil,s=>s
 | _,_,_,_,.cons r t,s=>.cons r (am.append t s)
theorem am.take:∀{xs:List V}{us:List Value} (n:Nat),am xs us->am (xs.take n) (us.take n)
 | _,_,0,_=>.nil
 | _,_,_ + 1,.nil=>.nil
 | _,_,n + 1,.cons r t=>.cons r (am.take n t)
theorem am.drop:∀{xs:List V}{us:List Value} (n:Nat),am xs us->am (xs.drop n) (us.drop n)
 | _,_,0,r=>r
 | _,_,_ + 1,.nil=>.nil
 | _,_,n + 1,.cons _ t=>am.drop n t
noncomputable def bE:Option V->Option Value->Prop
 | some v,some u=>RelV v u
 | none,none=>True
 | _,_=>False
noncomputable def KV {κ:Type}:List (κ×V)->List (κ×Value)->Prop:=Paired fun (p:κ×V) (q:κ×Value)=>p.1=q.1/\RelV p.2 q.2
noncomputable def kV:Key->V
 | .inl i=>.int i
 | .inr x=>.str x
inductive HO where
  | lst (xs:List V)
  | tup (xs:List V)
  | dK (kvs:List (Key×V)) | dT (kvs:List (List Key×V))
  | set (S:Int->Bool) (n:Nat)
  | ins (C dx:Addr) (fs:List (Str×V))
  | own (x:Addr)
  | xd (fs:List (Str×V))
  | met (f x:Addr)
  | rng (lo hi:Int)
  | frz (o:Obj) (u:HO)
  | tbl (ps:Array Value)
  | ext (φ:Heap->Prop)
noncomputable abbrev Hp:=Addr->Option HO
noncomputable def upd (H:Hp) (a:Addr) (o:HO):Hp:=fun b=>if b=a then some o else H b
theorem ai {H:Hp}{a:Addr}{o:HO}:upd H a o a=some o:=by unfold upd;rw [if_pos rfl]
theorem ag {H:Hp}{a b:Addr}{o:HO} (h:b≠a):upd H a o b=H b:=by unfold upd;rw [if_neg h]
theorem fU {H:Hp}{a b:Addr}{o u:HO} (h:H a=some o) (h':H b=some u) (d:o≠u):a≠b:=by
 intro e;subst e;rw [h] at h';exact d (Option.some.inj h')
theorem ax {H:Hp}{a b:Addr}{o:HO} (h:H a=some o) (h':H b=none):a≠b:=by
 intro e;subst e;rw [h] at h';cases h'
section
variable (P:Program) (w:World)
noncomputable def aC (H:Hp) (h:Heap) (a:Addr):HO->Prop
 | .lst xs=>xs.length<=sizeLine/\∃(its:List Value) (n:Nat),am xs its/\h.get? a=some { cls:=.type "list",data:=.seq its.toArray n }
 | .tup xs=>xs.length<=sizeLine/\∃its:List Value,am xs its/\IsTup h a its.toArray
 | .dK kvs=>kvs.length<=sizeLine/\(a == sysModules)=false/\∃vs,KV kvs vs/\h.DictOf (bt P w) a vs
 | .dT kvs=>kvs.length<=sizeLine/\(a == sysModules)=false/\∃xs:List (List Key×Addr×Value),
   Paired (fun (p:List Key×V) (q:List Key×Addr×Value)=>p.1=q.1/\H q.2.1=some (.tup (p.1.map kV))/\RelV p.2 q.2.2) kvs xs /\
   ∃o es ep,h.get? a=some o/\o.ExactDict/\o.data=.dict es ep/\es.toList=xs.map (entryOfKey (tupleKind (bt P w)))/\(xs.map (·.1)).Nodup
 | .set S n=>h.SetOf (intKind P w) a S n
 | .ins C dx fs=>H dx=some (.own a)/\fs.length<=1000/\dx≠a/\h.get? a=some (PySem.W.instObj C dx) /\
   ∃mA,h.Ns1 dx mA/\(∀f,bE (fs.lookup f) (mA f))/\PySem.Within mA (fs.map (·.1))
 | .own _=>∃o,h.get? a=some o
 | .xd fs=>∃mA,h.Ns1 a mA/\∀f,bE (fs.lookup f) (mA f)
 | .rng lo hi=>∃t u v,h.get? a=some { cls:=.type "range",data:=.fields #[.int lo t,.int hi u,.int 1 v] }
 | .frz o u=>h.get? a=some o/\aC H h a u
 | .tbl ps=>h.get? a=some { cls:=.none,data:=.fields ps }
 | .met f x=>h.get? a=some (PySem.W.methodObj (.ref f) (.ref x))
 | .ext φ=>φ h/\(∃o,h.get? a=some o)/\∀h1 h2:Heap,φ h1->(∀o,h1.get? a=some o->h2.get? a=some o)->φ h2
noncomputable def HOk (H:Hp) (h:Heap):Prop:=∀a o,H a=some o->aC P w H h a o
end
section
variable {P:Program}{w:World}{H H':Hp}{h h':Heap}{a:Addr}{o:HO}
theorem aC.lt (x:aC P w H h a o):a < h.objs.size:=by
 cases o with
 | lst xs=>obtain⟨_,_,_,_,e⟩:=x;exact Heap.lt_size e
 | tup xs=>obtain⟨_,_,_,p⟩:=x;exact p.lt
 | dK kvs=>obtain⟨_,_,_,_,o,_,_,e,_⟩:=x;exact Heap.lt_size e
 | dT kvs=>obtain⟨_,_,_,_,o,_,_,e,_⟩:=x;exact Heap.lt_size e
 | set S n=>obtain⟨o,_,_,_,e,_⟩:=x;exact Heap.lt_size e
 | ins C dx fs=>obtain⟨_,_,_,e,_⟩:=x;exact Heap.lt_size e
 | own y=>obtain⟨_,e⟩:=x;exact Heap.lt_size e
 | xd fs=>obtain⟨_,⟨_,_,_,e,_⟩,_⟩:=x;exact Heap.lt_size e
 | rng lo hi=>obtain⟨_,_,_,e⟩:=x;exact Heap.lt_size e
 | frz ob u=>obtain⟨e,_⟩:=x;exact Heap.lt_size e
 | tbl ps=>exact Heap.lt_size (show h.get? a=some _ from x)
 | met f y=>exact Heap.lt_size (show h.get? a=some _ from x)
 | ext φ=>obtain⟨_,⟨_,e⟩,_⟩:=x;exact Heap.lt_size e
theorem Paired.mapP {α β:Type}{F G:α->β->Prop}:∀{l₁:List α}{l₂:List β},Paired F l₁ l₂->(∀a b,F a b->G a b)->Paired G l₁ l₂
 | _,_,.nil,_=>.nil
 | _,_,.cons r t,f=>.cons (f _ _ r) (Paired.mapP t f)
theorem aC.stay (x:aC P w H h a o) (k:∀b u,(b=a\/H b=some (.own a))->h.get? b=some u->h'.get? b=some u)
  (ho:∀b,H b=some (.own a)->H' b=some (.own a)) (ht:∀b xs,H b=some (.tup xs)->H' b=some (.tup xs)):aC P w H' h' a o:=by
 induction o with
 | lst xs=>obtain⟨z,its,n,r,e⟩:=x;exact⟨z,its,n,r,k _ _ (.inl rfl) e⟩
 | tup xs=>obtain⟨z,its,r,ob,e,c⟩:=x;exact⟨z,its,r,ob,k _ _ (.inl rfl) e,c⟩
 | dK kvs=>obtain⟨z,y,vs,r,ob,es,ep,e,c⟩:=x;exact⟨z,y,vs,r,ob,es,ep,k _ _ (.inl rfl) e,c⟩
 | dT kvs =>
  obtain⟨z,y,xs,r,ob,es,ep,e,c⟩:=x
  exact⟨z,y,xs,Paired.mapP r fun p q z=>⟨z.1,ht _ _ z.2.1,z.2.2⟩,ob,es,ep,k _ _ (.inl rfl) e,c⟩
 | set S n=>obtain⟨ob,es,ep,t,e,c⟩:=x;exact⟨ob,es,ep,t,k _ _ (.inl rfl) e,c⟩
 | ins C dx fs =>
  obtain⟨d,z,ne,e,mA,⟨od,es,ep,e2,c⟩,r⟩:=x
  exact⟨ho _ d,z,ne,k _ _ (.inl rfl) e,mA,⟨od,es,ep,k _ _ (.inr d) e2,c⟩,r⟩
 | own y=>obtain⟨ob,e⟩:=x;exact⟨ob,k _ _ (.inl rfl) e⟩
 | xd fs=>obtain⟨mA,⟨od,es,ep,e,c⟩,r⟩:=x;exact⟨mA,⟨od,es,ep,k _ _ (.inl rfl) e,c⟩,r⟩
 | rng lo hi=>obtain⟨t,u,v,e⟩:=x;exact⟨t,u,v,k _ _ (.inl rfl) e⟩
 | frz ob u ih=>obtain⟨e,q⟩:=x;exact⟨k _ _ (.inl rfl) e,ih q⟩
 | tbl ps =>
  have e:h.get? a=some { cls:=.none,data:=.fields ps }:=x
  show h'.get? a=some { cls:=.none,data:=.fields ps }
  exact k a _ (.inl rfl) e
 | met f y =>
  have e:h.get? a=some (PySem.W.methodObj (.ref f) (.ref y)):=x
  show h'.get? a=some (PySem.W.methodObj (.ref f) (.ref y))
  exact k a _ (.inl rfl) e
 | ext φ=>obtain⟨p,⟨o,e⟩,st⟩:=x;exact⟨st _ _ p fun o q=>k _ _ (.inl rfl) q,⟨o,k _ _ (.inl rfl) e⟩,st⟩
theorem HOk.lt (x:HOk P w H h) (e:H a=some o):a < h.objs.size:=(x a o e).lt
theorem HOk.fresh (x:HOk P w H h) (e:h.objs.size<=a):H a=none:=by
 cases q:H a with
 | none=>rfl
 | some u=>exact absurd (Nat.lt_of_lt_of_le (x.lt q) e) (Nat.lt_irrefl _)
theorem HOk.kept (x:HOk P w H h) (k:∀b u,h.get? b=some u->h'.get? b=some u):HOk P w H h':=fun a o e =>
 (x a o e).stay (fun b u _ q=>k b u q) (fun _ q=>q) fun _ _ q=>q
theorem HOk.laid (x:HOk P w H h) (k:∀b u,h.get? b=some u->h'.get? b=some u) (hp:h.objs.size<=a) (new:aC P w (upd H a o) h' a o):HOk P w (upd H a o) h':=fun b u e=>by
 have hn:=x.fresh hp
 by_cases hb:b=a
 ·subst hb;rw [ai] at e;cases e;exact new
 ·rw [ag hb] at e
  exact (x b u e).stay (fun c v _ q=>k c v q) (fun c q=>by rw [ag (ax q hn)];exact q) fun c xs q=>by rw [ag (ax q hn)];exact q
end
noncomputable def Rd (H:Hp) (a:Addr) (u:HO):Prop:=H a=some u\/∃o,H a=some (.frz o u)
theorem Rd.ok {P:Program}{w:World}{H:Hp}{h:Heap}{a:Addr}{u:HO} (r:Rd H a u) (x:HOk P w H h):aC P w H h a u:=by
 rcases r with r | ⟨o,r⟩
 ·exact x a u r
 ·obtain⟨_,q⟩:=x a _ r
  exact q
noncomputable def Mut:Option HO->Prop
 | some (.lst _)=>True
 | some (.dK _)=>True
 | some (.dT _)=>True
 | some (.set _ _)=>True
 | some (.ins _ _ _)=>True
 | some (.ext _)=>True
 | _=>False
section
variable {P:Program}{w:World}{H:Hp}{h h':Heap}{x e:Addr}{o':HO}
theorem HOk.write (ok:HOk P w H h) (mu:Mut (H x)) (he:e=x\/H e=some (.own x)) (k:∀b u,b≠e->h.get? b=some u->h'.get? b=some u) (heo:∃u,h'.get? e=some u)
  (new:aC P w (upd H x o') h' x o'):HOk P w (upd H x o') h':=fun b u q=>by
 have nown:∀c y,H c=some (.own y)->c≠x:=fun c y r z=>by subst z;rw [r] at mu;exact mu
 have ntup:∀c xs,H c=some (.tup xs)->c≠x:=fun c xs r z=>by subst z;rw [r] at mu;exact mu
 by_cases hb:b=x
 ·subst hb;rw [ai] at q;cases q;exact new
 ·rw [ag hb] at q
  by_cases hbe:b=e
  ·have q':H b=some (.own x):=by
    rcases he with z | z
    ·exact absurd (hbe.trans z) hb
    ·rw [hbe];exact z
   rw [q] at q';cases q'
   obtain⟨v,hv⟩:=heo
   exact⟨v,by rw [hbe];exact hv⟩
  ·refine (ok b u q).stay (fun c v hc r=>k c v ?_ r) (fun c r=>by rw [ag (nown c b r)];exact r) fun c xs r=>by rw [ag (ntup c xs r)];exact r
   rcases hc with rfl | hc
   ·exact hbe
   ·rintro rfl
    rcases he with z | z
    ·exact nown c b hc z
    ·rw [hc] at z;cases z;exact hb rfl
end
structure Un (fs ex:List Addr) (H H':Hp) (h h':Heap):Prop where
 keep:∀b o,h.get? b=some o->H b=none->b∉fs->b∉ex->h'.get? b=some o
 slot:∀b o,h.get? b=some o->H b=none->b∈fs->b∉ex->∃sl,h'.get? b=some { o with slots:=sl }
 free:∀b o,h.get? b=some o->H b=none->b∉ex->H' b=none
 there:∀b o,h.get? b=some o->b∉ex->∃o',h'.get? b=some o'
 tups:∀b xs,H b=some (.tup xs)->H' b=some (.tup xs)
 frzs:∀b o u,H b=some (.frz o u)->H' b=some (.frz o u)
 tbls:∀b ps,H b=some (.tbl ps)->∃more,H' b=some (.tbl (ps++more))
section
variable {fs fs' ex ex':List Addr}{H H1 H2:Hp}{h h1 h2 h':Heap}{a x e:Addr}{o:HO}
theorem Un.any (u:Un fs ex H H1 h h1) {b:Addr}{ob:Obj} (q:h.get? b=some ob) (n:H b=none) (hx:b∉ex):∃sl,h1.get? b=some { ob with slots:=sl }:=by
 by_cases hb:b∈fs
 ·exact u.slot b ob q n hb hx
 ·exact⟨ob.slots,u.keep b ob q n hb hx⟩
theorem Un.kept (k:∀b u,h.get? b=some u->h'.get? b=some u):Un fs ex H H h h' :=
 ⟨fun b ob q _ _ _=>k b ob q,fun b ob q _ _ _=>⟨ob.slots,k b ob q⟩,fun _ _ _ n _=>n,fun b ob q _=>⟨ob,k b ob q⟩,fun _ _ q=>q,fun _ _ _ q=>q,fun _ ps q=>⟨#[],by rw [q];simp⟩⟩
theorem Un.refl:Un fs ex H H h h:=Un.kept fun _ _ q=>q
theorem Un.laid (k:∀b u,h.get? b=some u->h'.get? b=some u) (hp:h.objs.size<=a) (hn:H a=none):Un fs ex H (upd H a o) h h' where
 keep:=fun b u q _ _ _=>k b u q
 slot:=fun b u q _ _ _=>⟨u.slots,k b u q⟩
 free:=fun b u q n _=>by rw [ag (Nat.ne_of_lt (Nat.lt_of_lt_of_le (Heap.lt_size q) hp))];exact n
 there:=fun b u q _=>⟨u,k b u q⟩
 tups:=fun b xs q=>by rw [ag (ax q hn)];exact q
 frzs:=fun b u xs q=>by rw [ag (ax q hn)];exact q
 tbls:=fun b ps q=>⟨#[],by rw [ag (ax q hn),q];simp⟩
theorem Un.write (mu:Mut (H x)) (he:e=x\/H e=some (.own x)) (k:∀b u,b≠e->h.get? b=some u->h'.get? b=some u) (heo:∃u,h'.get? e=some u):Un fs ex H (upd H x o) h h':=by
 have hx:∀b,H b=none->b≠x:=fun b n z=>by subst z;rw [n] at mu;exact mu
 have hb:∀b,H b=none->b≠e:=fun b n z=>by
  subst z
  rcases he with r | r
  ·exact hx b n r
  ·rw [n] at r;cases r
 have hm:∀b u,H b=some u->¬ Mut (some u)->b≠x:=fun b u q nm z=>by subst z;rw [q] at mu;exact nm mu
 refine⟨fun b u q n _ _=>k b u (hb b n) q,fun b u q n _ _=>⟨u.slots,k b u (hb b n) q⟩,fun b u q n _=>by rw [ag (hx b n)];exact n,fun b u q _=>?_,
  fun b xs q=>by rw [ag (hm b _ q fun z=>z)];exact q,fun b u xs q=>by rw [ag (hm b _ q fun z=>z)];exact q,fun b ps q=>⟨#[],by rw [ag (hm b _ q fun z=>z),q];simp⟩⟩
 by_cases hbe:b=e
 ·subst hbe;exact heo
 ·exact⟨u,k b u hbe q⟩
end
noncomputable def trk (h:Heap) (H:Hp):List Addr:=(List.range h.objs.size).filter fun a=>(H a).isSome
noncomputable def ck (h:Heap) (H:Hp):Heap:=PySem.W.hideAll h (trk h H)
theorem ma (h:Heap) (H:Hp):(ck h H).objs.size=h.objs.size:=PySem.W.hideAll_size _ _
theorem nF {h:Heap}{H:Hp}{b:Addr}{o:Obj} (e:h.get? b=some o) (n:H b=none):(ck h H).get? b=some o :=
 PySem.W.hideAll_get _ e fun hm=>by
  have q:(H b).isSome=true:=(List.mem_filter.mp hm).2
  rw [n] at q;simp at q
theorem oM {h:Heap}{H:Hp}{b:Addr}{o:Obj} (e:(ck h H).get? b=some o):h.get? b=some o/\H b=none:=by
 have e':h.get? b=some o:=PySem.W.of_hideAll (trk h H) e
 refine⟨e',?_⟩
 cases q:H b with
 | none=>rfl
 | some x =>
  have hm:b∈trk h H:=List.mem_filter.mpr ⟨List.mem_range.mpr (Heap.lt_size e'),by simp [q]⟩
  have z:(ck h H).get? b=none:=PySem.W.hideAll_none (trk h H) hm
  rw [z] at e;cases e
noncomputable def oy (g h:Heap) (L:Addr):List (Addr×Obj):=(List.range h.objs.size).filterMap fun a=>if a=L\/(g.get? a).isSome=true then none else (h.get? a).map fun o=>(a,o)
noncomputable def rest (g h:Heap) (L d:Addr):List (Addr×Obj):=(oy g h L).filter fun p=>decide (p.1≠d)
structure Mod (K:PySem.W.Frag) (mg:Str->Option Value) (base:Heap):Prop where
 kin:K.In base
 glob:base.Ns mainGlobals mg
 blt:∃mb,base.Ns builtinsNs mb/\∀x:Str,x≠"__name__"->mb x=bootBuiltins x
 nolimit:base.NoLimit
structure Cx where
 prog:Program
 w:World
 K:PySem.W.Frag
 mg:Str->Option Value
 base:Heap
 A:Around
 N:List Str
 s₀:Shared
 H₀:Hp
 env:Env
 outer:List Env
 stack:List Env
 ex:List Addr
 fn:Str->Bool
 calm:Bool
 pn:List (Addr×Obj)
 xe:Value->Shared->Prop
noncomputable def frs (l:List Env):List Addr:=l.filterMap (·.frame)
noncomputable abbrev Cx.fs (X:Cx):List Addr:=frs X.outer
noncomputable def Vis (sc:Scope) (x:Str):Prop:=sc.names.lookup x=some .local\/sc.names.lookup x=some .cell\/sc.names.lookup x=some .free
noncomputable def Loc (sc:Scope) (x:Str):Prop:=sc.names.lookup x=some .local\/sc.names.lookup x=some .cell
noncomputable def Look (env:Env) (h:Heap) (m:Str->Option Value) (x:Str) (u:Value):Prop :=
 (env.kindOf x=some .local/\m x=some u)\/((env.kindOf x=some .cell\/env.kindOf x=some .free)/\∃c,env.cells.lookup x=some c/\h.IsCell c (some u))
structure Cx.Ok (X:Cx):Prop where
 mod:Mod X.K X.mg X.base
 kind:X.env.scope.kind=.function
 glob:X.env.globals=mainGlobals
 blt:X.env.builtins=builtinsNs
 above:X.s₀.heap.objs.size<=X.env.locals
 inj:∀x y c,X.env.cells.lookup x=some c->X.env.cells.lookup y=some c->x=y
 has:∀x,(X.env.kindOf x=some .cell\/X.env.kindOf x=some .free)->∃c,X.env.cells.lookup x=some c
 cab:∀x c,X.fn x=true->X.env.cells.lookup x=some c->X.s₀.heap.objs.size<=c
 hd:X.calm=true->X.A.handled=none
 frames:X.A.frames=some X.stack
 stk:X.stack=X.outer\/(X.stack=X.env::X.outer/\X.env.frame=some X.env.locals)
 exf:∀b∈X.ex,b≠X.env.locals/\∀x c,X.env.cells.lookup x=some c->c≠b
 bs:∀b o,X.base.get? b=some o->X.s₀.heap.get? b=some o/\X.H₀ b=none
 bsz:X.base.objs.size<=X.s₀.heap.objs.size
 noex:∀b o,X.base.get? b=some o->b∉X.ex
 exfs:∀b∈X.ex,b∉X.fs
 funs:X.s₀.heap.FunFrames X.base X.outer
 frf:∀b∈X.fs,X.H₀ b=none
structure Inv (X:Cx) (pins:List (Addr×Obj)) (σ:List (Option V)) (H:Hp) (s:Shared):Prop where
 ok:X.Ok
 os:s.os=X.s₀.os
 bare:AllBare s.gens
 base:Un X.fs X.ex X.H₀ H X.s₀.heap s.heap
 loc:∃m,s.heap.Ns X.env.locals m/\∀(i:Nat) (x:Str) (v:V),X.N[i]?=some x->σ[i]?=some (some v)->Vis X.env.scope x->∃u,RelV v u/\Look X.env s.heap m x u
 cell:∀x c,X.env.cells.lookup x=some c->∃v,s.heap.IsCell c v
 free:H X.env.locals=none
 freeC:∀x c,X.env.cells.lookup x=some c->H c=none
 pin:∀p∈X.pn++pins,s.heap.get? p.1=some p.2/\H p.1=none/\p.1≠X.env.locals/\p.1∉X.fs/\∀v,p.2.data≠.cell v
 hok:HOk X.prog X.w H s.heap
 len:σ.length=X.N.length
section
variable {X:Cx}{pins:List (Addr×Obj)}{σ:List (Option V)}{H H':Hp}{s:Shared}{h':Heap}
theorem Cx.Ok.nofr (ok:X.Ok) {b:Addr}{o:Obj} (e:X.base.get? b=some o):b∉X.fs:=fun hb=>by
 have:=(ok.funs.mem hb).1
 rw [e] at this;cases this
theorem Inv.bs (I:Inv X pins σ H s):∀b o,X.base.get? b=some o->s.heap.get? b=some o/\H b=none:=fun b o e =>
 ⟨I.base.keep b o (I.ok.bs b o e).1 (I.ok.bs b o e).2 (I.ok.nofr e) (I.ok.noex b o e),I.base.free b o (I.ok.bs b o e).1 (I.ok.bs b o e).2 (I.ok.noex b o e)⟩
theorem Inv.bk (I:Inv X pins σ H s):∀b o,X.base.get? b=some o->s.heap.get? b=some o:=fun b o e=>(I.bs b o e).1
theorem Inv.mod (I:Inv X pins σ H s):Mod X.K X.mg X.base:=I.ok.mod
theorem Inv.kIn (I:Inv X pins σ H s):X.K.In s.heap:=I.ok.mod.kin.keeps I.bk
theorem Inv.lt (I:Inv X pins σ H s):X.env.locals < s.heap.objs.size:=let ⟨_,hn,_⟩:=I.loc;hn.lt
theorem Inv.sz (I:Inv X pins σ H s):X.s₀.heap.objs.size<=s.heap.objs.size:=Nat.le_trans I.ok.above (Nat.le_of_lt I.lt)
theorem Inv.nofs (I:Inv X pins σ H s) {a:Addr} (h:s.heap.objs.size<=a):a∉X.fs:=fun hb=>by
 obtain⟨_,o,ho,_⟩:=I.ok.funs.mem hb
 exact absurd (Nat.lt_of_lt_of_le (Heap.lt_size ho) (Nat.le_trans I.sz h)) (Nat.lt_irrefl _)
theorem Inv.cne (I:Inv X pins σ H s):∀x c,X.env.cells.lookup x=some c->c≠X.env.locals:=fun x c e z=>by
 obtain⟨v,o,ho,hd⟩:=I.cell x c e
 obtain⟨m,⟨o',es,ep,ho',hd',_⟩,_⟩:=I.loc
 rw [z,ho'] at ho;cases ho;rw [hd'] at hd;cases hd
theorem Inv.funs (I:Inv X pins σ H s):s.heap.FunFrames X.base X.outer:=by
 have all:∀(l:List Env),(∀b∈frs l,b∈X.fs)->X.s₀.heap.FunFrames X.base l->s.heap.FunFrames X.base l:=by
  intro l
  induction l with
  | nil=>intro _ _;trivial
  | cons env r ih =>
   intro hs hl
   obtain⟨hk,⟨L,o,hf,hn,ho,hd⟩,hr⟩:=hl
   have hL:L∈X.fs:=hs L (by unfold frs;rw [List.filterMap_cons,hf];exact List.mem_cons_self)
   obtain⟨sl,e⟩:=I.base.slot L o ho (I.ok.frf L hL) hL fun z=>I.ok.exfs L z hL
   exact⟨hk,⟨L,_,hf,hn,e,hd⟩,ih (fun b hb=>hs b (by unfold frs;rw [List.filterMap_cons,hf];exact List.mem_cons_of_mem _ hb)) hr⟩
 exact all X.outer (fun _ hb=>hb) I.ok.funs
theorem Inv.stack (I:Inv X pins σ H s):s.heap.FunFrames X.base X.stack:=by
 rcases I.ok.stk with e | ⟨e,hf⟩
 ·rw [e];exact I.funs
 ·rw [e]
  obtain⟨m,hn,_⟩:=I.loc
  refine .cons (by rw [I.ok.kind];decide) hf hn ?_ I.funs
  exact Heap.get?_none_of_le (Nat.le_trans I.ok.bsz I.ok.above)
theorem Inv.stkSub (I:Inv X pins σ H s):∀b∈frs X.stack,b∈X.env.locals::X.fs:=fun b hb=>by
 rcases I.ok.stk with e | ⟨e,hf⟩
 ·rw [e] at hb;exact List.mem_cons_of_mem _ hb
 ·rw [e] at hb
  unfold frs at hb
  rw [List.filterMap_cons,hf] at hb
  exact hb
theorem Inv.stkFree (I:Inv X pins σ H s):∀b∈frs X.stack,H b=none:=fun b hb=>by
 rcases List.mem_cons.mp (I.stkSub b hb) with e | hb
 ·rw [e];exact I.free
 ·obtain⟨_,o,ho,_⟩:=I.ok.funs.mem hb
  exact I.base.free b o ho (I.ok.frf b hb) fun z=>I.ok.exfs b z hb
theorem Inv.step {g':Array GenState}{t':Nat}{d':Drawn}{ch:List Addr} (I:Inv X pins σ H s)
  (hch:∀b∈ch,(b∈X.ex\/X.s₀.heap.objs.size<=b)/\b≠X.env.locals/\(∀x c,X.env.cells.lookup x=some c->c≠b)/\∀p∈X.pn++pins,p.1≠b)
  (keep:∀b o,b≠X.env.locals->b∉X.fs->b∉ch->s.heap.get? b=some o->H b=none->h'.get? b=some o)
  (slot:∀b o,b≠X.env.locals->b∈X.fs->b∉ch->s.heap.get? b=some o->H b=none->∃sl,h'.get? b=some { o with slots:=sl }) (free:∀b o,b∉ch->s.heap.get? b=some o->H b=none->H' b=none)
  (there:∀b o,b∉ch->s.heap.get? b=some o->∃o',h'.get? b=some o')
  (tups:∀b xs,H b=some (.tup xs)->H' b=some (.tup xs)) (frzs:∀b o u,H b=some (.frz o u)->H' b=some (.frz o u)) (tbls:∀b ps,H b=some (.tbl ps)->∃more,H' b=some (.tbl (ps++more)))
  (ns:∀m,s.heap.Ns X.env.locals m->h'.Ns X.env.locals m) (hok:HOk X.prog X.w H' h') (hg:AllBare g') :
  Inv X pins σ H' { s with heap:=h',gens:=g',drawn:=d',toks:=t' }:=by
 have neL:∀b o,X.s₀.heap.get? b=some o->b≠X.env.locals:=fun b o e=>Nat.ne_of_lt (Nat.lt_of_lt_of_le (Heap.lt_size e) I.ok.above)
 have neC:∀b o,X.s₀.heap.get? b=some o->b∉X.ex->b∉ch:=fun b o e hx hb=>by
  rcases (hch b hb).1 with z | z
  ·exact hx z
  ·exact absurd (Nat.lt_of_lt_of_le (Heap.lt_size e) z) (Nat.lt_irrefl _)
 have cellK:∀x c,X.env.cells.lookup x=some c->∀v,s.heap.IsCell c v->h'.IsCell c v:=fun x c e v ⟨o,ho,hd⟩=>by
  have nch:c∉ch:=fun z=>(hch c z).2.2.1 x c e rfl
  by_cases hc:c∈X.fs
  ·obtain⟨sl,q⟩:=slot c o (I.cne x c e) hc nch ho (I.freeC x c e)
   exact⟨_,q,hd⟩
  ·exact⟨o,keep c o (I.cne x c e) hc nch ho (I.freeC x c e),hd⟩
 refine⟨I.ok,I.os,hg,⟨fun b o e n hb hx=>?_,fun b o e n hb hx=>?_,fun b o e n hx=>?_,fun b o e hx=>?_,fun b xs e=>tups b xs (I.base.tups b xs e),fun b o xs e=>frzs b o xs (I.base.frzs b o xs e),fun b ps e=>?_⟩,?_,fun x c e=>?_,?_,fun x c e=>?_,fun p hp=>?_,hok,I.len⟩
 ·exact keep b o (neL b o e) hb (neC b o e hx) (I.base.keep b o e n hb hx) (I.base.free b o e n hx)
 ·obtain⟨sl,e1⟩:=I.base.slot b o e n hb hx
  obtain⟨sl',e2⟩:=slot b _ (neL b o e) hb (neC b o e hx) e1 (I.base.free b o e n hx)
  exact⟨sl',e2⟩
 ·obtain⟨o',e1⟩:=I.base.there b o e hx
  exact free b o' (neC b o e hx) e1 (I.base.free b o e n hx)
 ·obtain⟨o',e1⟩:=I.base.there b o e hx
  exact there b o' (neC b o e hx) e1
 ·obtain⟨m1,e1⟩:=I.base.tbls b ps e
  obtain⟨m2,e2⟩:=tbls b _ e1
  exact⟨m1++m2,by rw [e2,Array.append_assoc]⟩
 ·obtain⟨m,hn,hl⟩:=I.loc
  refine⟨m,ns m hn,fun i x v e1 e2 e3=>?_⟩
  obtain⟨u,r,l⟩:=hl i x v e1 e2 e3
  refine⟨u,r,?_⟩
  rcases l with l | ⟨k,c,e,z⟩
  ·exact .inl l
  ·exact .inr ⟨k,c,e,cellK x c e _ z⟩
 ·obtain⟨v,z⟩:=I.cell x c e
  exact⟨v,cellK x c e v z⟩
 ·obtain⟨m,⟨o,_,_,ho,_⟩,_⟩:=I.loc
  exact free _ o (fun z=>(hch _ z).2.1 rfl) ho I.free
 ·obtain⟨v,o,ho,hd⟩:=I.cell x c e
  exact free c o (fun z=>(hch c z).2.2.1 x c e rfl) ho (I.freeC x c e)
 ·obtain⟨e,n,ne,nf,d⟩:=I.pin p hp
  have nch:p.1∉ch:=fun z=>(hch p.1 z).2.2.2 p hp rfl
  exact⟨keep p.1 p.2 ne nf nch e n,free p.1 p.2 nch e n,ne,nf,d⟩
theorem Inv.un {t':Nat} (I:Inv X pins σ H s) (u:Un X.fs [] H H' s.heap h') (hok:HOk X.prog X.w H' h'):Inv X pins σ H' { s with heap:=h',toks:=t' }:=by
 obtain⟨m,⟨o,es,ep,ho,r⟩,_⟩:=id I.loc
 obtain⟨sl,hL⟩:=u.any ho I.free (by simp)
 exact I.step (g':=s.gens) (d':=s.drawn) (ch:=[]) (fun _ z=>nomatch z) (fun b o _ hb _ e n=>u.keep b o e n hb (by simp)) (fun b o _ hb _ e n=>u.slot b o e n hb (by simp)) (fun b o _ e n=>u.free b o e n (by simp)) (fun b o _ e=>u.there b o e (by simp)) u.tups u.frzs u.tbls (fun m' hm=>by
  obtain⟨o',es',ep',ho',r'⟩:=hm
  rw [ho] at ho';cases ho'
  exact⟨_,es',ep',hL,r'⟩) hok I.bare
theorem Inv.call {g':Array GenState}{t':Nat}{d':Drawn}{ch:List Addr} (I:Inv X pins σ H s) (u:Un (frs X.stack) ch H H' s.heap h') (hok:HOk X.prog X.w H' h') (hg:AllBare g')
  (hch:∀b∈ch,(b∈X.ex\/X.s₀.heap.objs.size<=b)/\b≠X.env.locals/\(∀x c,X.env.cells.lookup x=some c->c≠b)/\∀p∈X.pn++pins,p.1≠b) :
  Inv X pins σ H' { s with heap:=h',gens:=g',drawn:=d',toks:=t' }:=by
 obtain⟨m,⟨o,es,ep,ho,r⟩,_⟩:=id I.loc
 obtain⟨sl,hL⟩:=u.any ho I.free fun z=>(hch _ z).2.1 rfl
 exact I.step (ch:=ch) hch (fun b o hL hb hc e n=>u.keep b o e n (fun z=>(List.mem_cons.mp (I.stkSub b z)).elim hL hb) hc) (fun b o _ _ hc e n=>u.any e n hc) (fun b o hc e n=>u.free b o e n hc) (fun b o hc e=>u.there b o e hc) u.tups u.frzs u.tbls (fun m' hm=>by
  obtain⟨o',es',ep',ho',r'⟩:=hm
  rw [ho] at ho';cases ho'
  exact⟨_,es',ep',hL,r'⟩) hok hg
theorem Inv.turned {t':Nat}{it:Addr} (I:Inv X pins σ H s) (k:∀b o,b≠it->s.heap.get? b=some o->h'.get? b=some o) (hn:H it=none) (hL:it≠X.env.locals)
  (h1:it∈X.ex\/X.s₀.heap.objs.size<=it) (h2:∀x c,X.env.cells.lookup x=some c->c≠it) (h3:∀p∈X.pn++pins,p.1≠it):Inv X pins σ H { s with heap:=h',toks:=t' }:=by
 have nit:∀b u,H b=some u->b≠it:=fun b u e z=>by rw [z,hn] at e;cases e
 refine I.step (g':=s.gens) (d':=s.drawn) (ch:=[it]) (fun b hb=>?_) (fun b o _ _ hc e _=>k b o (fun z=>hc (by simp [z])) e) (fun b o _ _ hc e _=>⟨o.slots,k b o (fun z=>hc (by simp [z])) e⟩) (fun _ _ _ _ n=>n)
  (fun b o hc e=>⟨o,k b o (fun z=>hc (by simp [z])) e⟩) (fun _ _ e=>e) (fun _ _ _ e=>e) (fun b ps e=>⟨#[],by rw [e];simp⟩) (fun m hm=>?_) (fun b u e=>?_) I.bare
 ·have e:b=it:=by simpa using hb
  subst e
  exact⟨h1,hL,h2,h3⟩
 ·obtain⟨o,es,ep,ho,r⟩:=hm
  exact⟨o,es,ep,k _ o (Ne.symm hL) ho,r⟩
 ·refine (I.hok b u e).stay (fun c v hc q=>k c v ?_ q) (fun _ q=>q) fun _ _ q=>q
  rcases hc with z | z
  ·rw [z];exact nit b u e
  ·exact nit c _ z
theorem Inv.tok (I:Inv X pins σ H s) (t:Nat):Inv X pins σ H { s with toks:=t }:=I.un (h':=s.heap) (t':=t) Un.refl I.hok
theorem Inv.kept {t':Nat} (I:Inv X pins σ H s) (k:∀b u,s.heap.get? b=some u->h'.get? b=some u):Inv X pins σ H { s with heap:=h',toks:=t' }:=I.un (Un.kept k) (I.hok.kept k)
theorem Inv.laid {a:Addr}{o:HO}{t':Nat} (I:Inv X pins σ H s) (k:∀b u,s.heap.get? b=some u->h'.get? b=some u) (hp:s.heap.objs.size<=a) (new:aC X.prog X.w (upd H a o) h' a o) :
  Inv X pins σ (upd H a o) { s with heap:=h',toks:=t' }:=I.un (Un.laid k hp (I.hok.fresh hp)) (I.hok.laid k hp new)
theorem Inv.write {x e:Addr}{o:HO}{t':Nat} (I:Inv X pins σ H s) (mu:Mut (H x)) (he:e=x\/H e=some (.own x)) (k:∀b u,b≠e->s.heap.get? b=some u->h'.get? b=some u) (heo:∃u,h'.get? e=some u)
  (new:aC X.prog X.w (upd H x o) h' x o):Inv X pins σ (upd H x o) { s with heap:=h',toks:=t' }:=I.un (Un.write mu he k heo) (I.hok.write mu he k heo new)
theorem Inv.pins_of {pins':List (Addr×Obj)} (I:Inv X pins σ H s) (h:∀p∈pins',s.heap.get? p.1=some p.2/\H p.1=none/\p.1≠X.env.locals/\p.1∉X.fs/\∀v,p.2.data≠.cell v):Inv X pins' σ H s :=
 ⟨I.ok,I.os,I.bare,I.base,I.loc,I.cell,I.free,I.freeC,fun p hp=>(List.mem_append.mp hp).elim (fun z=>I.pin p (List.mem_append_left _ z)) (h p),I.hok,I.len⟩
theorem ir {N:List Str} (hN:N.Nodup) {i j:Nat}{x:Str} (a:N[i]?=some x) (b:N[j]?=some x):i=j:=by
 obtain⟨h1,e1⟩:=List.getElem?_eq_some_iff.mp a
 obtain⟨h2,e2⟩:=List.getElem?_eq_some_iff.mp b
 exact (List.getElem_inj hN).mp (e1.trans e2.symm)
theorem il {M:Model}{A:Around}{E:Value->Shared->Prop}{i:Nat}{x:Str}{v:V}{u:Value}{Q:Unit->Shared->Prop} (I:Inv X pins σ H s) (hN:X.N.Nodup) (hi:X.N[i]?=some x) (hx:Loc X.env.scope x) (r:RelV v u)
  (h:∀s',Inv X pins (σ.set i (some v)) H s'->(∃a,Heap.SameBut a s.heap s'.heap/\(a=X.env.locals\/X.env.cells.lookup x=some a))->Q () s') (hf:X.fn x=true\/X.env.scope.names.lookup x=some .local:=by first | exact .inl rfl | exact .inr rfl | assumption):wpAny M A (storeName X.env x u) Q E s:=by
 obtain⟨m,hn,hl⟩:=id I.loc
 have hcls:(X.env.scope.kind == .class || (X.env.scope.kind == .module && X.env.locals != X.env.globals))=false:=by rw [I.ok.kind];rfl
 have hiσ:i < σ.length:=by rw [I.len];exact (List.getElem?_eq_some_iff.mp hi).1
 have cne:=I.cne
 have tracked:∀{a:Addr}{h':Heap},(∃o,s.heap.get? a=some o/\H a=none)->Heap.SameBut a s.heap h'->HOk X.prog X.w H h':=fun {a h'} ha hs b ob e=>by
  obtain⟨_,_,hfree⟩:=ha
  refine (I.hok b ob e).stay (fun c w' hc q=>(hs.2 c ?_).trans q) (fun _ q=>q) fun _ _ q=>q
  rintro rfl
  rcases hc with rfl | hc
  ·rw [hfree] at e;cases e
  ·rw [hfree] at hc;cases hc
 rcases hx with hk | hk
 ·refine wpAny_storeName_local hk hn (fun h' hn' hs=>?_) hcls
  obtain⟨oL,_,_,hoL,_⟩:=id hn
  refine h _ ⟨I.ok,I.os,I.bare,⟨fun b o e n hb hx=>?_,fun b o e n hb hx=>?_,I.base.free,fun b o e hx=>?_,I.base.tups,I.base.frzs,I.base.tbls⟩,⟨_,hn',fun j y v' e1 e2 e3=>?_⟩,fun y c e=>?_,I.free,I.freeC,fun p hp=>?_,tracked ⟨oL,hoL,I.free⟩ hs,by simpa using I.len⟩ ⟨_,hs,.inl rfl⟩
  ·exact (hs.2 b (Nat.ne_of_lt (Nat.lt_of_lt_of_le (Heap.lt_size e) I.ok.above))).trans (I.base.keep b o e n hb hx)
  ·obtain⟨sl,e1⟩:=I.base.slot b o e n hb hx
   exact⟨sl,(hs.2 b (Nat.ne_of_lt (Nat.lt_of_lt_of_le (Heap.lt_size e) I.ok.above))).trans e1⟩
  ·obtain⟨o',e1⟩:=I.base.there b o e hx
   exact⟨o',(hs.2 b (Nat.ne_of_lt (Nat.lt_of_lt_of_le (Heap.lt_size e) I.ok.above))).trans e1⟩
  ·by_cases hj:j=i
   ·subst hj
    rw [hi] at e1;cases e1
    rw [List.getElem?_set_self hiσ] at e2
    cases e2
    exact⟨u,r,.inl ⟨hk,by simp⟩⟩
   ·rw [List.getElem?_set_ne (Ne.symm hj)] at e2
    obtain⟨u',r',q⟩:=hl j y v' e1 e2 e3
    refine⟨u',r',?_⟩
    rcases q with ⟨k,e⟩ | ⟨k,c,e,z⟩
    ·refine .inl ⟨k,?_⟩
     have:y≠x:=fun e=>hj (ir hN e1 (e ▸ hi))
     simp [this,e]
    ·exact .inr ⟨k,c,e,z.sameBut hs (cne y c e)⟩
  ·obtain⟨w',z⟩:=I.cell y c e
   exact⟨w',z.sameBut hs (cne y c e)⟩
  ·obtain⟨e,n,ne,nf,d⟩:=I.pin p hp
   exact⟨(hs.2 p.1 ne).trans e,n,ne,nf,d⟩
 ·have hfn:X.fn x=true:=by
   rcases hf with z | z
   ·exact z
   ·rw [z] at hk;cases hk
  obtain⟨c,hc⟩:=I.ok.has x (.inl hk)
  obtain⟨w',z⟩:=I.cell x c hc
  refine wpAny_storeName_cell I.ok.kind hk hc z (fun h' hc' hs=>?_)
  obtain⟨oc,hoc,hocd⟩:=id z
  refine h { s with heap:=h' } ⟨I.ok,I.os,I.bare,⟨fun b o e n hb hx=>?_,fun b o e n hb hx=>?_,I.base.free,fun b o e hx=>?_,I.base.tups,I.base.frzs,I.base.tbls⟩,⟨m,hn.sameBut hs (Ne.symm (cne x c hc)),fun j y v' e1 e2 e3=>?_⟩,fun y c' e=>?_,I.free,I.freeC,fun p hp=>?_,tracked ⟨oc,hoc,I.freeC x c hc⟩ hs,by simpa using I.len⟩ ⟨c,hs,.inr hc⟩
  ·exact (hs.2 b (Nat.ne_of_lt (Nat.lt_of_lt_of_le (Heap.lt_size e) (I.ok.cab x c hfn hc)))).trans (I.base.keep b o e n hb hx)
  ·obtain⟨sl,e1⟩:=I.base.slot b o e n hb hx
   exact⟨sl,(hs.2 b (Nat.ne_of_lt (Nat.lt_of_lt_of_le (Heap.lt_size e) (I.ok.cab x c hfn hc)))).trans e1⟩
  ·obtain⟨o',e1⟩:=I.base.there b o e hx
   exact⟨o',(hs.2 b (Nat.ne_of_lt (Nat.lt_of_lt_of_le (Heap.lt_size e) (I.ok.cab x c hfn hc)))).trans e1⟩
  ·by_cases hj:j=i
   ·subst hj
    rw [hi] at e1;cases e1
    rw [List.getElem?_set_self hiσ] at e2
    cases e2
    exact⟨u,r,.inr ⟨.inl hk,c,hc,hc'⟩⟩
   ·rw [List.getElem?_set_ne (Ne.symm hj)] at e2
    obtain⟨u',r',q⟩:=hl j y v' e1 e2 e3
    refine⟨u',r',?_⟩
    rcases q with q | ⟨k,c',e,z'⟩
    ·exact .inl q
    ·refine .inr ⟨k,c',e,z'.sameBut hs ?_⟩
     rintro rfl
     exact hj (ir hN e1 (I.ok.inj _ _ _ e hc ▸ hi))
  ·by_cases hcc:c'=c
   ·subst hcc;exact⟨_,hc'⟩
   ·obtain⟨w2,z2⟩:=I.cell y c' e
    exact⟨w2,z2.sameBut hs hcc⟩
  ·obtain⟨e,n,ne,nf,d⟩:=I.pin p hp
   refine⟨(hs.2 p.1 ?_).trans e,n,ne,nf,d⟩
   intro q
   rw [q,hoc] at e
   have q':oc=p.2:=Option.some.inj e
   exact d w' (by rw [<- q'];exact hocd)
theorem iQ {M:Model}{A:Around}{E:Value->Shared->Prop}{i:Nat}{x:Str}{v:V}{u:Value}{Q:Unit->Shared->Prop} (I:Inv X pins σ H s) (hN:X.N.Nodup) (hi:X.N[i]?=some x) (hx:Loc X.env.scope x) (r:RelV v u)
  (h:∀s',Inv X pins (σ.set i (some v)) H s'->Q () s') (hf:X.fn x=true\/X.env.scope.names.lookup x=some .local:=by first | exact .inl rfl | exact .inr rfl | assumption):wpAny M A (storeName X.env x u) Q E s :=
 il I hN hi hx r (fun s' I' _=>h s' I') hf
theorem Inv.call' {s':Shared}{ch:List Addr} (I:Inv X pins σ H s) (ho:s'.os=s.os) (u:Un (frs X.stack) ch H H' s.heap s'.heap) (hok:HOk X.prog X.w H' s'.heap) (hg:AllBare s'.gens)
  (hch:∀b∈ch,(b∈X.ex\/X.s₀.heap.objs.size<=b)/\b≠X.env.locals/\(∀x c,X.env.cells.lookup x=some c->c≠b)/\∀p∈X.pn++pins,p.1≠b):Inv X pins σ H' s':=by
 obtain⟨h',g',d',t',o'⟩:=s'
 have e:o'=s.os:=ho
 subst e
 exact I.call (g':=g') (t':=t') (d':=d') u hok hg hch
end
noncomputable abbrev XK:=Value->Option Addr->Hp->Prop
noncomputable abbrev St:=List (Option V)
noncomputable abbrev VK:=V->Hp->Prop
noncomputable abbrev TE:=St->Hp->VK->Prop
noncomputable abbrev TT:=St->Hp->(Bool->Hp->Prop)->Prop
noncomputable abbrev TA:=St->Hp->(List V->Hp->Prop)->Prop
structure Ends where
 nx:St->Hp->Prop
 rt:VK
 bk:St->Hp->Prop:=fun _ _=>False
 ct:St->Hp->Prop:=fun _ _=>False
noncomputable abbrev TS:=Ends->St->Hp->Prop
noncomputable def EP (X:Cx) (pins:List (Addr×Obj)) (σ:St) (Q:VK) (u:Value) (s':Shared):Prop:=∃v H',Inv X pins σ H' s'/\RelV v u/\Q v H'
noncomputable def TP (X:Cx) (pins:List (Addr×Obj)) (σ:St) (Q:Bool->Hp->Prop) (b:Bool) (s':Shared):Prop:=∃H',Inv X pins σ H' s'/\Q b H'
noncomputable def AP (X:Cx) (pins:List (Addr×Obj)) (σ:St) (Q:List V->Hp->Prop) (us:List Value) (s':Shared):Prop:=∃vs H',Inv X pins σ H' s'/\am vs us/\Q vs H'
noncomputable def SP (X:Cx) (pins:List (Addr×Obj)) (D:Ends) (f:Flow) (s':Shared):Prop :=
 match f with
 | .next=>∃σ' H',Inv X pins σ' H' s'/\D.nx σ' H'
 | .brk=>∃σ' H',Inv X pins σ' H' s'/\D.bk σ' H'
 | .cont=>∃σ' H',Inv X pins σ' H' s'/\D.ct σ' H'
 | .ret u=>∃v σ' H',Inv X pins σ' H' s'/\RelV v u/\D.rt v H'
noncomputable def PE (X:Cx) (e:Expr) (t:TE):Prop :=
 ∀(pins:List (Addr×Obj)) (s:Shared) (σ:St) (H:Hp) (Q:VK),Inv X pins σ H s->t σ H Q->wpAny (model X.prog X.w) X.A (eval e X.env) (EP X pins σ Q) X.xe s
noncomputable def PT (X:Cx) (e:Expr) (t:TT):Prop :=
 ∀(pins:List (Addr×Obj)) (s:Shared) (σ:St) (H:Hp) (Q:Bool->Hp->Prop),Inv X pins σ H s->t σ H Q->wpAny (model X.prog X.w) X.A (isTrue e X.env (eval e X.env)) (TP X pins σ Q) X.xe s
noncomputable def PW (X:Cx) (e:Expr) (t:TT):Prop :=
 ∀(whole:Sem Value) (pins:List (Addr×Obj)) (s:Shared) (σ:St) (H:Hp) (Q:Bool->Hp->Prop),Inv X pins σ H s->t σ H Q->wpAny (model X.prog X.w) X.A (isTrue e X.env whole) (TP X pins σ Q) X.xe s
theorem PW.pt {X:Cx}{e:Expr}{t:TT} (h:PW X e t):PT X e t:=h _
noncomputable def PA (X:Cx) (es:List Expr) (t:TA):Prop :=
 ∀(pos:Pos) (pins:List (Addr×Obj)) (s:Shared) (σ:St) (H:Hp) (Q:List V->Hp->Prop),Inv X pins σ H s->t σ H Q->wpAny (model X.prog X.w) X.A (spliced (backTo pos (starEach es X.env))) (AP X pins σ Q) X.xe s
noncomputable def PS (X:Cx) (st:Stmt) (t:TS):Prop :=
 ∀(pins:List (Addr×Obj)) (s:Shared) (σ:St) (H:Hp) (D:Ends),Inv X pins σ H s->t D σ H->wpAny (model X.prog X.w) X.A (exec st X.env) (SP X pins D) X.xe s
noncomputable def PSs (X:Cx) (st:List Stmt) (t:TS):Prop :=
 ∀(pins:List (Addr×Obj)) (s:Shared) (σ:St) (H:Hp) (D:Ends),Inv X pins σ H s->t D σ H->wpAny (model X.prog X.w) X.A (execs st X.env) (SP X pins D) X.xe s
theorem thn {α:Type}{t:Sem α}{Q Q':α->Shared->Prop}{M:Model}{A:Around}{E:Value->Shared->Prop}{s:Shared} (h:wpAny M A t Q E s) (hQ:∀a s,Q a s->Q' a s):wpAny M A t Q' E s:=wpAny_mono h hQ fun _ _ x=>x
section
variable {X:Cx}
noncomputable def kh (i:Nat):TE:=fun σ H Q=>∃v,σ[i]?=some (some v)/\Q v H
noncomputable def tC (v:V):TE:=fun _ H Q=>Q v H
theorem qg {i:Nat}{x:Str}{pos:Pos} (hN:X.N[i]?=some x) (hv:Vis X.env.scope x) (hd:(x == ("__debug__":Str))=false:=by decide) (hcd:(x == ("__classdict__":Str))=false:=by decide):PE X (.Name x pos) (kh i):=by
 intro pins s σ H Q I h
 obtain⟨v,e,h⟩:=h
 obtain⟨m,hn,hl⟩:=I.loc
 obtain⟨u,r,l⟩:=hl i x v hN e hv
 have fin:EP X pins σ Q u s:=⟨v,H,I,r,h⟩
 rcases l with ⟨hk,hm⟩ | ⟨hk,c,hc,hcell⟩
 ·exact wpAny_Name (wpAny_loadName_local I.ok.kind hk hn hm fin) hd
 ·rcases hk with hk | hk
  ·exact wpAny_Name (wpAny_loadName_cell I.ok.kind hk hc hcell fin) hd
  ·exact wpAny_Name (wpAny_loadName_free I.ok.kind hk hc hcell fin hcd) hd
theorem af {i j pos}:PE X (.Constant (.int i) j pos) (tC (.int i)):=fun _ _ _ H _ I h=>wpAny_Constant_int ⟨.int i,H,I.tok _,⟨_,rfl⟩,h⟩
theorem du {b j pos}:PE X (.Constant (.bool b) j pos) (tC (.bl b)):=fun _ _ _ H _ I h=>Constant_bool ⟨.bl b,H,I,rfl,h⟩
theorem cC {x j pos}:PE X (.Constant (.str x) j pos) (tC (.str x)):=fun _ _ _ H _ I h=>Calls.Constant_str ⟨.str x,H,I.tok _,⟨_,rfl⟩,h⟩
noncomputable def Gl (X:Cx) (x:Str):Prop:=X.env.kindOf x=some .globalImplicit
theorem iZ {E:Value->Shared->Prop}{pins:List (Addr×Obj)}{s:Shared}{σ:St}{H:Hp}{x:Str}{u:Value}{pos:Pos}{Q:Value->Shared->Prop} (I:Inv X pins σ H s) (hg:Gl X x) (hm:X.mg x=some u) (h:Q u s)
  (hd:(x == ("__debug__":Str))=false:=by decide):wpAny (model X.prog X.w) X.A (eval (.Name x pos) X.env) Q E s :=
 Calls.Name_function_global I.ok.kind hg (Calls.loadGlobal_global (by rw [I.ok.glob];exact I.mod.glob.keeps I.bk) hm h) hd
theorem bO {E:Value->Shared->Prop}{pins:List (Addr×Obj)}{s:Shared}{σ:St}{H:Hp}{x:Str}{u:Value}{pos:Pos}{Q:Value->Shared->Prop} (I:Inv X pins σ H s) (hg:Gl X x) (hm:X.mg x=none) (hv:bootBuiltins x=some u) (h:Q u s)
  (hn:x≠"__name__":=by decide) (hd:(x == ("__debug__":Str))=false:=by decide):wpAny (model X.prog X.w) X.A (eval (.Name x pos) X.env) Q E s:=by
 obtain⟨mb,h1,h2⟩:=I.mod.blt
 exact Calls.Name_function_global I.ok.kind hg (Calls.loadGlobal_builtin (by rw [I.ok.glob];exact I.mod.glob.keeps I.bk) hm (by rw [I.ok.blt];exact h1.keeps I.bk) ((h2 x hn).trans hv) h) hd
theorem nJ {x:Str}{v:V}{u:Value}{pos:Pos} (hg:Gl X x) (hm:X.mg x=some u) (r:RelV v u) (hd:(x == ("__debug__":Str))=false:=by decide):PE X (.Name x pos) (tC v) :=
 fun _ _ _ H _ I h=>iZ I hg hm ⟨v,H,I,r,h⟩ hd
theorem cw {x:Str}{v:V}{u:Value}{pos:Pos} (hg:Gl X x) (hm:X.mg x=none) (hv:bootBuiltins x=some u) (r:RelV v u) (hn:x≠"__name__":=by decide) (hd:(x == ("__debug__":Str))=false:=by decide):PE X (.Name x pos) (tC v) :=
 fun _ _ _ H _ I h=>bO I hg hm hv ⟨v,H,I,r,h⟩ hn hd
variable {a b:Expr}{ta tb:TE}{pos:Pos}
noncomputable def tB (t:TE):TT:=fun σ H Q=>t σ H fun x H1=>∃c,x=.bl c/\Q c H1
theorem bJ {e:Expr}{t:TE} (h:PE X e t) (he:∀whole,isTrue e X.env whole=(do let v <- whole;standAt e.pos;holding [v] (truthy v)):=by intro _;rfl):PT X e (tB t):=by
 intro pins s σ H Q I hw
 refine isTrue_plain (thn (h pins s σ H _ I hw) fun v s1 ⟨x,H1,I1,r1,q1⟩=>?_) (he _)
 obtain⟨d,rfl,q⟩:=q1
 cases r1
 exact wpAny_truthy_bool ⟨H1,I1,q⟩
variable {tA tB':TT}{rest:List Expr}
noncomputable def rL (t u:TT):TT:=fun σ H Q=>t σ H fun c H1=>if c=true then u σ H1 Q else Q false H1
noncomputable def tOr (t u:TT):TT:=fun σ H Q=>t σ H fun c H1=>if c=true then Q true H1 else u σ H1 Q
noncomputable def qS (t:TT):TT:=fun σ H Q=>t σ H fun c H1=>Q (!c) H1
theorem ot (ha:PT X a tA):PW X (.BoolOp .And [a] pos) tA:=by
 intro wh pins s σ H Q I h
 refine isTrue_and (thn (ha pins s σ H Q I h) fun c s1 e=>?_)
 cases c with
 | true=>exact isTrue_and_nil e
 | false=>exact e
theorem cA (ha:PT X a tA):PW X (.BoolOp .Or [a] pos) tA:=by
 intro wh pins s σ H Q I h
 refine isTrue_or (thn (ha pins s σ H Q I h) fun c s1 e=>?_)
 cases c with
 | false=>exact isTrue_or_nil e
 | true=>exact e
theorem qe (ha:PT X a tA) (hb:PW X (.BoolOp .And (b::rest) pos) tB'):PW X (.BoolOp .And (a::b::rest) pos) (rL tA tB'):=by
 intro wh pins s σ H Q I h
 refine isTrue_and (thn (ha pins s σ H _ I h) fun c s1 ⟨H1,I1,q1⟩=>?_)
 cases c with
 | true=>exact hb wh pins s1 σ H1 Q I1 q1
 | false=>exact⟨H1,I1,q1⟩
theorem bW (ha:PT X a tA) (hb:PW X (.BoolOp .Or (b::rest) pos) tB'):PW X (.BoolOp .Or (a::b::rest) pos) (tOr tA tB'):=by
 intro wh pins s σ H Q I h
 refine isTrue_or (thn (ha pins s σ H _ I h) fun c s1 ⟨H1,I1,q1⟩=>?_)
 cases c with
 | true=>exact⟨H1,I1,q1⟩
 | false=>exact hb wh pins s1 σ H1 Q I1 q1
theorem bI (ha:PT X a tA):PT X (.UnaryOp .Not a pos) (qS tA):=by
 intro pins s σ H Q I h
 exact isTrue_not (ha pins s σ H (fun c H1=>Q (!c) H1) I h)
noncomputable def qH (ta tb:TE):TE:=fun σ H Q=>ta σ H fun x H1=>∃c,x=.bl c/\if c=true then tb σ H1 Q else Q (.bl false) H1
theorem eT {op}{t:TE} (h:PE X a t):PE X (.BoolOp op [a] pos) t:=fun pins s σ H Q I hw=>BoolOp_one (h pins s σ H Q I hw)
theorem dn (ha:PE X a ta) (hb:PE X (.BoolOp .And (b::rest) pos) tb):PE X (.BoolOp .And (a::b::rest) pos) (qH ta tb):=by
 intro pins s σ H Q I h
 refine BoolOp_and (thn (ha pins s σ H _ I h) fun v s1 ⟨x,H1,I1,r1,q1⟩=>?_)
 obtain⟨c,rfl,q1⟩:=q1
 cases r1
 refine wpAny_truthy_bool ?_
 cases c with
 | true=>exact hb pins s1 σ H1 Q I1 q1
 | false=>exact⟨.bl false,H1,I1,rfl,q1⟩
end
noncomputable def SqL (K:PySem.W.Frag) (H:Hp) (a:Addr) (xs:List V):Prop :=
 Rd H a (.lst xs) \/
  ∃(o:Obj) (its:Array Value) (n:Nat),K.lookup a=some o/\o.cls=.type "list"/\o.dict=none/\o.data=.seq its n/\its.size<=sizeLine/\am xs its.toList
noncomputable def SqT (K:PySem.W.Frag) (H:Hp) (a:Addr) (xs:List V):Prop :=
 Rd H a (.tup xs) \/
  ∃(o:Obj) (its:Array Value) (n:Nat),K.lookup a=some o/\o.cls=.type "tuple"/\o.data=.seq its n/\its.size<=sizeLine/\am xs its.toList
noncomputable def qQ:Value->Option V
 | .none=>some .non
 | .bool b=>some (.bl b)
 | .int i _=>some (.int i)
 | .str x _=>some (.str x)
 | .bytes b _=>some (.byt b)
 | .float b _=>some (.flt b)
 | .ref a=>some (.ref a)
 | .type n=>some (.ty n)
 | _=>none
theorem RelV.abs {x:V}{u:Value} (r:RelV x u):qQ u=some x:=by
 cases x with
 | non=>cases r;rfl
 | bl _=>cases r;rfl
 | int _=>obtain⟨t,rfl⟩:=r;rfl
 | str _=>obtain⟨t,rfl⟩:=r;rfl
 | byt _=>obtain⟨t,rfl⟩:=r;rfl
 | flt _=>obtain⟨t,rfl⟩:=r;rfl
 | ref _=>cases r;rfl
 | ty _=>cases r;rfl
theorem RelV.inj {x y:V}{u:Value} (r:RelV x u) (q:RelV y u):x=y:=Option.some.inj (r.abs.symm.trans q.abs)
theorem am.inj:∀{xs ys:List V}{us:List Value},am xs us->am ys us->xs=ys
 | _,_,_,.nil,.nil=>rfl
 | _,_,_,.cons r t,.cons r' t'=>by rw [r.inj r',am.inj t t']
section
variable {X:Cx}{pins:List (Addr×Obj)}{σ:St}{H:Hp}{s:Shared}{a:Addr}{xs ys:List V}
theorem SqL.of {K:PySem.W.Frag} (h:H a=some (.lst xs)):SqL K H a xs:=.inl (.inl h)
theorem SqT.of {K:PySem.W.Frag} (h:H a=some (.tup xs)):SqT K H a xs:=.inl (.inl h)
theorem Inv.list (I:Inv X pins σ H s) (h:SqL X.K H a xs):∃its:List Value,am xs its/\PlainL s.heap a its.toArray/\xs.length<=sizeLine:=by
 rcases h with h | ⟨o,its,n,hk,hc,hd,hs,hz,r⟩
 ·obtain⟨z,its,n,r,e⟩:=h.ok I.hok
  exact⟨its,r,⟨_,n,e,rfl,rfl,rfl⟩,z⟩
 ·refine⟨its.toList,r,⟨o,n,I.kIn a o hk,hc,hd,by simpa using hs⟩,?_⟩
  have e:=r.length
  simp only [Array.length_toList] at e
  omega
theorem Inv.tuple (I:Inv X pins σ H s) (h:SqT X.K H a xs):∃its:List Value,am xs its/\IsTup s.heap a its.toArray/\xs.length<=sizeLine:=by
 rcases h with h | ⟨o,its,n,hk,hc,hs,hz,r⟩
 ·obtain⟨z,its,r,p⟩:=h.ok I.hok
  exact⟨its,r,p,z⟩
 ·refine⟨its.toList,r,⟨o,I.kIn a o hk,hc,n,by simpa using hs⟩,?_⟩
  have e:=r.length
  simp only [Array.length_toList] at e
  omega
theorem Inv.list_inj (I:Inv X pins σ H s) (h:SqL X.K H a xs) (h':SqL X.K H a ys):xs=ys:=by
 obtain⟨its,r,⟨o,n,e,_,_,d⟩,_⟩:=I.list h
 obtain⟨its',r',⟨o',n',e',_,_,d'⟩,_⟩:=I.list h'
 rw [e] at e';cases e'
 rw [d] at d'
 injection d' with d1 _
 have:its=its':=by simpa using congrArg Array.toList d1
 subst this
 exact r.inj r'
theorem Inv.tuple_inj (I:Inv X pins σ H s) (h:SqT X.K H a xs) (h':SqT X.K H a ys):xs=ys:=by
 obtain⟨its,r,⟨o,e,_,n,d⟩,_⟩:=I.tuple h
 obtain⟨its',r',⟨o',e',_,n',d'⟩,_⟩:=I.tuple h'
 rw [e] at e';cases e'
 rw [d] at d'
 injection d' with d1 _
 have:its=its':=by simpa using congrArg Array.toList d1
 subst this
 exact r.inj r'
end
noncomputable abbrev Cx.wish (X:Cx) (E:Value->Shared->Prop):Cx:={ X with xe:=E }
noncomputable abbrev Cx.nox (X:Cx):Cx:=X.wish fun _ _=>False
theorem Cx.Ok.wish {X:Cx} (ok:X.Ok) (E:Value->Shared->Prop):(X.wish E).Ok :=
 ⟨ok.mod,ok.kind,ok.glob,ok.blt,ok.above,ok.inj,ok.has,ok.cab,ok.hd,ok.frames,ok.stk,ok.exf,ok.bs,ok.bsz,ok.noex,ok.exfs,ok.funs,ok.frf⟩
theorem Cx.Ok.unwish {X:Cx}{E:Value->Shared->Prop} (ok:(X.wish E).Ok):X.Ok :=
 ⟨ok.mod,ok.kind,ok.glob,ok.blt,ok.above,ok.inj,ok.has,ok.cab,ok.hd,ok.frames,ok.stk,ok.exf,ok.bs,ok.bsz,ok.noex,ok.exfs,ok.funs,ok.frf⟩
section
variable {X:Cx}{pins:List (Addr×Obj)}{σ:St}{H:Hp}{s:Shared}{E:Value->Shared->Prop}
theorem Inv.wish (I:Inv X pins σ H s) (E:Value->Shared->Prop):Inv (X.wish E) pins σ H s:=⟨I.ok.wish E,I.os,I.bare,I.base,I.loc,I.cell,I.free,I.freeC,I.pin,I.hok,I.len⟩
theorem Inv.unwish (I:Inv (X.wish E) pins σ H s):Inv X pins σ H s:=⟨I.ok.unwish,I.os,I.bare,I.base,I.loc,I.cell,I.free,I.freeC,I.pin,I.hok,I.len⟩
theorem SP.unwish {D:Ends}{f:Flow}{s':Shared} (h:SP (X.wish E) pins D f s'):SP X pins D f s':=by
 cases f with
 | next=>obtain⟨σ',H',I,q⟩:=h;exact⟨σ',H',I.unwish,q⟩
 | brk=>obtain⟨σ',H',I,q⟩:=h;exact⟨σ',H',I.unwish,q⟩
 | cont=>obtain⟨σ',H',I,q⟩:=h;exact⟨σ',H',I.unwish,q⟩
 | ret u=>obtain⟨v,σ',H',I,r,q⟩:=h;exact⟨v,σ',H',I.unwish,r,q⟩
theorem PSs.nox {st:List Stmt}{t:TS} (h:PSs X.nox st t):PSs X st t:=fun pins s σ H D I hw =>
 wpAny_mono (h pins s σ H D (I.wish _) hw) (fun _ _ q=>q.unwish) fun _ _ z=>False.elim z
end
section
variable {X:Cx}{st:Stmt}{rest:List Stmt}{t u:TS}{e:Expr}{te:TE}{pos:Pos}
noncomputable def jT:TS:=fun D σ H=>D.nx σ H
noncomputable def e9 (t u:TS):TS:=fun D σ H=>t { D with nx:=u D } σ H
theorem aS:PSs X [] jT:=fun _ _ σ H _ I h=>wpAny_execs_nil ⟨σ,H,I,h⟩
theorem ak (h1:PS X st t) (h2:PSs X rest u):PSs X (st::rest) (e9 t u):=by
 intro pins s σ H D I h
 refine wpAny_execs_cons (thn (h1 pins s σ H { D with nx:=u D } I h) fun f s1 q=>?_)
 cases f with
 | next =>
  obtain⟨σ',H',I',q⟩:=q
  exact h2 pins s1 σ' H' D I' q
 | ret v=>exact q
 | brk=>exact q
 | cont=>exact q
theorem aq (h1:PS X st t):PSs X [st] t:=by
 intro pins s σ H D I h
 refine wpAny_execs_cons (thn (h1 pins s σ H D I h) fun f s1 q=>?_)
 cases f with
 | next=>exact wpAny_execs_nil q
 | ret v=>exact q
 | brk=>exact q
 | cont=>exact q
theorem Inv.quiet {pins:List (Addr×Obj)}{σ:St}{H:Hp}{s:Shared} (I:Inv X pins σ H s):interactive X.env=false:=by simp [interactive,I.ok.kind]
noncomputable def qE (te:TE):TS:=fun D σ H=>te σ H fun _ H1=>D.nx σ H1
theorem cR (he:PE X e te) (hs:swapsWith e none pos.line X.env=pure false:=by rfl):PS X (.Expr e pos) (qE te):=by
 intro pins s σ H D I h
 exact wpAny_Expr_any (thn (he pins s σ H _ I h) fun v s1 ⟨x,H1,I1,r1,q1⟩=>⟨σ,H1,I1,q1⟩) I.quiet hs
noncomputable def rH (te:TE):TS:=fun D σ H=>te σ H D.rt
theorem aI (he:PE X e te):PS X (.Return (some e) pos) (rH te):=by
 intro pins s σ H D I h
 exact wpAny_Return_some (thn (he pins s σ H _ I h) fun v s1 ⟨x,H1,I1,r1,q1⟩=>⟨x,σ,H1,I1,r1,q1⟩)
noncomputable def gn (c:TT) (t u:TS):TS:=fun D σ H=>c σ H fun b H1=>if b=true then t D σ H1 else u D σ H1
theorem aV {c:Expr}{a b:List Stmt}{tc:TT} (hc:PT X c tc) (ha:PSs X a t) (hb:PSs X b u):PS X (.If c a b pos) (gn tc t u):=by
 intro pins s σ H D I h
 refine wpAny_If (thn (hc pins s σ H _ I h) fun d s1 ⟨H1,I1,q1⟩=>?_)
 cases d with
 | true=>exact ha pins s1 σ H1 D I1 q1
 | false=>exact hb pins s1 σ H1 D I1 q1
noncomputable def pE:TS:=fun _ _ _=>False
theorem c9 {sts:List Stmt}:PSs X sts pE:=fun _ _ _ _ _ _ h=>h.elim
end
noncomputable abbrev TG:=V->St->Hp->(St->Hp->Prop)->Prop
noncomputable abbrev TGs:=List V->St->Hp->(St->Hp->Prop)->Prop
noncomputable def PG (X:Cx) (target:Expr) (t:TG):Prop :=
 ∀(pins:List (Addr×Obj)) (s:Shared) (σ:St) (H:Hp) (v:V) (u:Value) (Q:St->Hp->Prop),Inv X pins σ H s->RelV v u->t v σ H Q ->
  wpAny (model X.prog X.w) X.A (assign target X.env u) (fun _ s'=>∃σ' H',Inv X pins σ' H' s'/\Q σ' H') X.xe s
noncomputable def PGs (X:Cx) (ts:List Expr) (t:TGs):Prop :=
 ∀(pins:List (Addr×Obj)) (s:Shared) (σ:St) (H:Hp) (vs:List V) (us:List Value) (Q:St->Hp->Prop),Inv X pins σ H s->am vs us->t vs σ H Q ->
  wpAny (model X.prog X.w) X.A (assignInOrder ((assignEach ts X.env).map (·.2)) us) (fun _ s'=>∃σ' H',Inv X pins σ' H' s'/\Q σ' H') X.xe s
noncomputable abbrev dY:=V->V->V->Hp->(Hp->Prop)->Prop
noncomputable def gj (X:Cx) (t:dY):Prop :=
 ∀(pins:List (Addr×Obj)) (s:Shared) (σ:St) (H:Hp) (o i v:V) (ov iv u:Value) (Q:Hp->Prop),Inv X pins σ H s->RelV o ov->RelV i iv->RelV v u->t o i v H Q ->
  wpAny (model X.prog X.w) X.A (setItem ov iv u) (fun _ s'=>∃H',Inv X pins σ H' s'/\Q H') X.xe s
noncomputable abbrev TIp:=V->V->Hp->VK->Prop
noncomputable def PIp (X:Cx) (op:Operator) (t:TIp):Prop :=
 ∀(pins:List (Addr×Obj)) (s:Shared) (σ:St) (H:Hp) (x y:V) (v u:Value) (Q:VK),Inv X pins σ H s->RelV x v->RelV y u->t x y H Q ->
  wpAny (model X.prog X.w) X.A (inplaceOp op v u) (EP X pins σ Q) X.xe s
section
variable {X:Cx}{pos:Pos}
noncomputable def bC (i:Nat):TG:=fun v σ H Q=>Q (σ.set i (some v)) H
theorem aZ {i:Nat}{x:Str} (hN:X.N.Nodup) (hi:X.N[i]?=some x) (hx:Loc X.env.scope x) (hf:X.fn x=true\/X.env.scope.names.lookup x=some .local:=by first | exact .inl rfl | exact .inr rfl | assumption):PG X (.Name x pos) (bC i):=by
 intro pins s σ H v u Q I r h
 exact wpAny_assign_Name (iQ I hN hi hx r (fun s' I'=>⟨_,H,I',h⟩) hf)
noncomputable def rO:TGs:=fun vs σ H Q=>vs=[]/\Q σ H
noncomputable def qD (t:TG) (u:TGs):TGs:=fun vs σ H Q=>∃v r,vs=v::r/\t v σ H fun σ' H'=>u r σ' H' Q
theorem bH:PGs X [] rO:=by
 intro pins s σ H vs us Q I r h
 obtain⟨e,h⟩:=h
 subst e
 cases r
 exact assignInOrder_nil ⟨σ,H,I,h⟩
theorem aR {e:Expr}{es:List Expr}{t:TG}{u:TGs} (h1:PG X e t) (h2:PGs X es u)
  (hs:(assignEach (e::es) X.env).map (·.2)=assign e X.env::(assignEach es X.env).map (·.2):=by rfl):PGs X (e::es) (qD t u):=by
 intro pins s σ H vs us Q I r h
 obtain⟨v,vr,e1,h⟩:=h
 subst e1
 cases r with
 | cons r rr =>
  rw [hs]
  refine assignInOrder_cons (thn (h1 pins s σ H _ _ _ I r h) fun _ s1 ⟨σ1,H1,I1,q1⟩=>?_)
  exact h2 pins s1 σ1 H1 _ _ Q I1 rr q1
noncomputable def kK (K:PySem.W.Frag) (n:Nat) (t:TGs):TG:=fun v σ H Q=>∃a xs,v=.ref a/\SqT K H a xs/\xs.length=n/\t xs σ H Q
theorem cB {es:List Expr}{k:Nat}{t:TGs}{n:Nat} (hc:X.calm=true) (h:PGs X es t)
  (hn:(assignEach es X.env).length=n:=by rfl) (hst:(assignEach es X.env).findIdx? (·.1)=none:=by rfl):PG X (.Tuple es k pos) (kK X.K n t):=by
 intro pins s σ H v u Q I r hw
 obtain⟨a,xs,e1,hq,hl,hw⟩:=hw
 subst e1
 cases r
 obtain⟨its,rv,ht,hz⟩:=I.tuple hq
 refine assign_Tuple_tuple (I.ok.hd hc) ht (by simp [hn,<- hl,rv.length]) hst fun h' hx=>?_
 have I1:Inv X pins σ H { s with heap:=h' }:=I.kept (t':=s.toks) fun b o e=>hx b o (Nat.ne_of_lt (Heap.lt_size e)) e
 exact h pins _ σ H xs _ Q I1 (by simpa using rv) hw
noncomputable def rA (to ti:TE) (t:dY):TG:=fun v σ H Q=>to σ H fun o H1=>ti σ H1 fun i H2=>t o i v H2 fun H3=>Q σ H3
theorem cS {o i:Expr}{to ti:TE}{t:dY} (ho:PE X o to) (hi:PE X i ti) (hs:gj X t)
  (ha:∀v,assign (.Subscript o i pos) X.env v=(do
   let ov <- holding [v] (eval o X.env)
   let iv <- holding [v,ov] (eval i X.env)
   standAt pos
   holding [v,ov,iv] (setItem ov iv v)
   release [v,ov,iv] []):=by intro _;rfl):PG X (.Subscript o i pos) (rA to ti t):=by
 intro pins s σ H v u Q I r h
 rw [ha]
 refine wpAny_bind (wpAny_holding (thn (ho pins s σ H _ I h) fun ov s1 ⟨x,H1,I1,r1,q1⟩=>?_))
 refine wpAny_bind (wpAny_holding (thn (hi pins s1 σ H1 _ I1 q1) fun iv s2 ⟨y,H2,I2,r2,q2⟩=>?_))
 refine wpAny_bind (wpAny_standAt (wpAny_bind (wpAny_holding (thn (hs pins s2 σ H2 x y v ov iv u _ I2 r1 r2 r q2) fun _ s3 ⟨H3,I3,q3⟩=>?_))))
 exact wpAny_release ⟨σ,H3,I3,q3⟩
noncomputable def gi (te:TE) (g:TG):TS:=fun D σ H=>te σ H fun x H1=>g x σ H1 D.nx
theorem cf {tg e:Expr}{te:TE}{g:TG} (he:PE X e te) (hg:PG X tg g) (hs:swapsWithSole [tg] e pos.line X.env=pure false:=by rfl) (hw:swappedStores [tg] e X.env=pure none:=by rfl)
  (h1:(assignEach [tg] X.env).map (·.2)=[assign tg X.env]:=by rfl):PS X (.Assign [tg] e pos) (gi te g):=by
 intro pins s σ H D I h
 refine wpAny_Assign_stores (thn (he pins s σ H _ I h) fun v s1 ⟨x,H1,I1,r1,q1⟩=>?_) hs hw
 rw [h1]
 exact thn (hg pins s1 σ H1 x v _ I1 r1 q1) fun _ s2 q=>q
theorem au {i:Nat}{x:Str}{e:Expr}{te:TE}{pos':Pos} (hN:X.N.Nodup) (hi:X.N[i]?=some x) (hx:Loc X.env.scope x) (he:PE X e te) (hs:swapsWith e (some (.Name x pos')) pos.line X.env=pure false:=by rfl) (hf:X.fn x=true\/X.env.scope.names.lookup x=some .local:=by first | exact .inl rfl | exact .inr rfl | assumption) :
  PS X (.Assign [.Name x pos'] e pos) (gi te (bC i)):=by
 intro pins s σ H D I h
 refine wpAny_Assign_Name (thn (he pins s σ H _ I h) fun v s1 ⟨y,H1,I1,r1,q1⟩=>?_) hs
 exact iQ I1 hN hi hx r1 (fun s2 I2=>⟨_,H1,I2,q1⟩) hf
noncomputable def qN (to ti te:TE) (tget:V->V->Hp->VK->Prop) (tip:TIp) (tset:dY):TS:=fun D σ H=>to σ H fun o H1=>ti σ H1 fun i H2=>tget o i H2 fun x H3=>te σ H3 fun y H4=>tip x y H4 fun z H5=>tset o i z H5 fun H6=>D.nx σ H6
noncomputable def kr (X:Cx) (t:V->V->Hp->VK->Prop):Prop :=
 ∀(pins:List (Addr×Obj)) (s:Shared) (σ:St) (H:Hp) (o i:V) (ov iv:Value) (Q:VK),Inv X pins σ H s->RelV o ov->RelV i iv->t o i H Q ->
  wpAny (model X.prog X.w) X.A (getItem ov iv) (EP X pins σ Q) X.xe s
theorem iV {o i e:Expr}{to ti te:TE}{tget:V->V->Hp->VK->Prop}{tip:TIp}{tset:dY}{op:Operator}{tpos:Pos} (ho:PE X o to) (hi:PE X i ti) (hg:kr X tget) (he:PE X e te) (hp:PIp X op tip) (hs:gj X tset)
  (ha:∀ov iv new,augStore i ov iv new=(do holding [new,ov,iv] (setItem ov iv new);release [new,ov,iv] [];pure .next):=by intros;rfl):PS X (.AugAssign (.Subscript o i tpos) op e pos) (qN to ti te tget tip tset):=by
 intro pins s σ H D I h
 refine wpAny_AugAssign_SubscriptAny (thn (ho pins s σ H _ I h) fun ov s1 ⟨x1,H1,I1,r1,q1⟩=>?_) ha
 refine thn (hi pins s1 σ H1 _ I1 q1) fun iv s2 ⟨x2,H2,I2,r2,q2⟩=>?_
 refine thn (hg pins s2 σ H2 x1 x2 ov iv _ I2 r1 r2 q2) fun old s3 ⟨x3,H3,I3,r3,q3⟩=>?_
 refine thn (he pins s3 σ H3 _ I3 q3) fun v s4 ⟨x4,H4,I4,r4,q4⟩=>?_
 refine thn (hp pins s4 σ H4 x3 x4 old v _ I4 r3 r4 q4) fun new s5 ⟨x5,H5,I5,r5,q5⟩=>?_
 exact thn (hs pins s5 σ H5 x1 x2 x5 ov iv new _ I5 r1 r2 r5 q5) fun _ s6 ⟨H6,I6,q6⟩=>⟨σ,H6,I6,q6⟩
noncomputable def ipI (f:Int->Int->Int):TIp:=fun x y H Q=>∃i j,x=.int i/\y=.int j/\Q (.int (f i j)) H
theorem pN:PIp X .Add (ipI fun i j=>i + j):=by
 intro pins s σ H x y v u Q I r1 r2 h
 obtain⟨i,j,e1,e2,q⟩:=h
 subst e1;subst e2
 obtain⟨t,rfl⟩:=r1
 obtain⟨t',rfl⟩:=r2
 exact iadd_int ⟨.int _,H,I.tok _,⟨_,rfl⟩,q⟩
theorem pB:PIp X .Sub (ipI fun i j=>i - j):=by
 intro pins s σ H x y v u Q I r1 r2 h
 obtain⟨i,j,e1,e2,q⟩:=h
 subst e1;subst e2
 obtain⟨t,rfl⟩:=r1
 obtain⟨t',rfl⟩:=r2
 exact isub_int ⟨.int _,H,I.tok _,⟨_,rfl⟩,q⟩
end
section
variable {X:Cx}{pos:Pos}
noncomputable def px (c:TT) (tb:TS):TS:=fun D σ H=>∃W:Nat->St->Hp->Prop,(∃m,W m σ H)/\∀m σ H,W m σ H ->
 c σ H fun b H1=>if b=true then ∃N:St->Hp->Prop,(∀σ' H',N σ' H'->∃m',m' < m/\W m' σ' H')/\tb { D with nx:=N,ct:=N,bk:=D.nx } σ H1 else D.nx σ H1
theorem iS {c:Expr}{body:List Stmt}{tc:TT}{tb:TS} (hp:PassesOwn (model X.prog X.w) X.A X.env X.xe) (hc:PT X c tc) (hb:PSs X body tb):PS X (.While c body [] pos) (px tc tb):=by
 intro pins s σ H D I h
 obtain⟨W,⟨m0,w0⟩,turn⟩:=h
 refine wpAny_While (codeAny_whileLoop (fun n s'=>∃σ' H',Inv X pins σ' H' s'/\W n σ' H') ?_ m0 ⟨σ,H,I,w0⟩)
 rintro n s1 ⟨σ1,H1,I1,w1⟩
 refine wpAny_passesOwn hp (thn (hc pins s1 σ1 H1 _ I1 (turn n σ1 H1 w1)) fun b s2 ⟨H2,I2,q2⟩=>?_)
 cases b with
 | true =>
  obtain⟨N,hN,q2⟩:=q2
  rw [if_pos rfl]
  refine wpAny_passesOwn hp (thn (hb pins s2 σ1 H2 _ I2 q2) fun f s3 q3=>?_)
  cases f with
  | next =>
   obtain⟨σ3,H3,I3,n3⟩:=q3
   obtain⟨m',hm,w3⟩:=hN σ3 H3 n3
   exact⟨m',hm,σ3,H3,I3,w3⟩
  | cont =>
   obtain⟨σ3,H3,I3,n3⟩:=q3
   obtain⟨m',hm,w3⟩:=hN σ3 H3 n3
   exact⟨m',hm,σ3,H3,I3,w3⟩
  | brk=>exact q3
  | ret v=>exact q3
 | false =>
  rw [if_neg Bool.false_ne_true]
  exact wpAny_execs_nil ⟨σ1,H2,I2,q2⟩
end
structure It where
 go:Nat->Hp->Prop
 yld:Nat->Hp->V->Hp->Prop
 stop:Nat->Hp->Prop
noncomputable def br (X:Cx) (pins:List (Addr×Obj)) (H:Hp) (b:Addr):Prop :=
 H b=none/\b≠X.env.locals/\b∉X.fs/\(b∈X.ex\/X.s₀.heap.objs.size<=b)/\(∀x c,X.env.cells.lookup x=some c->c≠b)/\∀p∈X.pn++pins,p.1≠b
theorem Inv.fpOk {X:Cx}{pins:List (Addr×Obj)}{σ:St}{H H':Hp}{s:Shared}{b:Addr} (I:Inv X pins σ H s) (hb:s.heap.objs.size<=b) (hn:H' b=none):br X pins H' b:=by
 refine⟨hn,Nat.ne_of_gt (Nat.lt_of_lt_of_le I.lt hb),I.nofs hb,.inr (Nat.le_trans I.sz hb),fun x c e z=>?_,fun p hp z=>?_⟩
 ·obtain⟨v,q⟩:=I.cell x c e
  exact absurd (Nat.lt_of_lt_of_le q.lt (by rw [z];exact hb)) (Nat.lt_irrefl _)
 ·exact absurd (Nat.lt_of_lt_of_le (Heap.lt_size (I.pin p hp).1) (by rw [z];exact hb)) (Nat.lt_irrefl _)
structure Turn (P:Program) (w:World) (K:PySem.W.Frag) (tg:Expr) (J:It) (fp:List Addr) (it:Addr) (tn:Nat->Heap->Prop):Prop where
 mem:it∈fp
 obj:∀i h,tn i h->∀b∈fp,∃o,h.get? b=some o/\∀v,o.data≠.cell v
 keep:∀i h h',tn i h->(∀b∈fp,∀o,h.get? b=some o->h'.get? b=some o)->tn i h'
 item:∀(X:Cx),X.prog=P->X.w=w->X.K=K->X.calm=true->∀(i:Nat) (pins:List (Addr×Obj)) (s:Shared) (σ:St) (H:Hp) (E:Value->Shared->Prop),Inv X pins σ H s->(∀b∈fp,br X pins H b)->tn i s.heap->J.go i H ->
  wpAny (model P w) X.A (pyNext (.ref it)) (fun r s1=>∃u,r=some u /\
   wpAny (model P w) X.A (letOwnedTupleGo tg (.ref it) u) (fun _ s2=>∃x H',Inv X pins σ H' s2/\RelV x u/\J.yld i H x H'/\tn (i + 1) s2.heap/\∀b∈fp,H' b=none) E s1) E s
 done:∀(X:Cx),X.prog=P->X.w=w->X.K=K->X.calm=true->∀(i:Nat) (pins:List (Addr×Obj)) (s:Shared) (σ:St) (H:Hp) (E:Value->Shared->Prop),Inv X pins σ H s->(∀b∈fp,br X pins H b)->tn i s.heap->J.stop i H ->
  wpAny (model P w) X.A (pyNext (.ref it)) (fun r s1=>r=none/\Inv X pins σ H s1) E s
 self:∀(A:Around) (i:Nat) (s:Shared) (Q:Value->Shared->Prop) (E:Value->Shared->Prop),tn i s.heap->Q (.ref it) s->wpAny (model P w) A (pyIter (.ref it)) Q E s
noncomputable abbrev TI:=St->Hp->(It->Hp->Prop)->Prop
noncomputable def PIE (X:Cx) (pins:List (Addr×Obj)) (σ:St) (tg:Expr) (R:It->Hp->Prop) (itv:Value) (s2:Shared):Prop :=
 ∃(it:Addr) (fp:List Addr) (tn:Nat->Heap->Prop) (J:It) (H':Hp),itv=.ref it/\Inv X pins σ H' s2/\Turn X.prog X.w X.K tg J fp it tn/\tn 0 s2.heap/\(∀b∈fp,br X pins H' b)/\R J H'
noncomputable def PI (X:Cx) (tg iter:Expr) (wi:TI):Prop :=
 ∀(pins:List (Addr×Obj)) (s:Shared) (σ:St) (H:Hp) (R:It->Hp->Prop),Inv X pins σ H s->wi σ H R ->
  wpAny (model X.prog X.w) X.A (eval iter X.env) (fun v s1=>wpAny (model X.prog X.w) X.A (pyIter v) (PIE X pins σ tg R) X.xe s1) X.xe s
theorem dq {M:Model}{A:Around}{E:Value->Shared->Prop}{s:Shared}{tg:Expr}{it:Addr}{u:Value}{o:Obj}{n:String}{vs:Array Value}{Q:Unit->Shared->Prop} (ho:s.heap.get? it=some o) (hc:o.cls=.type n) (hd:o.data=.fields vs)
  (hn:["enumerate","zip","dict_itemiterator","dict_reverseitemiterator","odict_iterator","itertools.zip_longest","itertools.pairwise"].contains n=false) (hQ:Q () s):wpAny M A (letOwnedTupleGo tg (.ref it) u) Q E s:=by
 unfold letOwnedTupleGo
 cases tg <;> first
  | exact wpAny_pure hQ
  | (cases u <;> first
    | exact wpAny_pure hQ
    | (refine wpAny_bind (wpAny_load ho ?_)
       rw [hc,hd]
       show wpAny M A (if (["enumerate","zip","dict_itemiterator","dict_reverseitemiterator","odict_iterator","itertools.zip_longest","itertools.pairwise"].contains n && vs[0]? == some (rawInt _))=true then _ else _) Q E s
       rw [if_neg (by intro h;rw [hn,Bool.false_and] at h;cases h)]
       exact wpAny_pure hQ))
noncomputable def Itl (K:PySem.W.Frag) (a:Addr):It :=
 ⟨fun i H=>∃xs x,SqL K H a xs/\xs[i]?=some x,fun i H x H'=>H'=H/\∀xs,SqL K H a xs->xs[i]?=some x,fun i H=>∃xs,SqL K H a xs/\xs.length<=i⟩
noncomputable def Itt (K:PySem.W.Frag) (a:Addr):It :=
 ⟨fun i H=>∃xs x,SqT K H a xs/\xs[i]?=some x,fun i H x H'=>H'=H/\∀xs,SqT K H a xs->xs[i]?=some x,fun i H=>∃xs,SqT K H a xs/\xs.length<=i⟩
noncomputable def Itr (lo:Int) (n:Nat):It:=⟨fun i _=>i < n,fun i H x H'=>H'=H/\x=.int (lo + i),fun i _=>n<=i⟩
theorem lT {P:Program}{w:World}{K:PySem.W.Frag}{tg:Expr} (a it:Addr):Turn P w K tg (Itl K a) [it] it (fun i h=>h.IsListIter it a i) where
 mem:=by simp
 obj:=fun i h st b hb=>by
  have e:b=it:=by simpa using hb
  subst e
  obtain⟨o,e,c,d⟩:=st
  exact⟨o,e,fun v z=>by rw [d] at z;cases z⟩
 keep:=fun i h h' st k=>st.at fun o e=>k it (by simp) o e
 item:=by
  intro X hP hw hK hc i pins s σ H E I hf st hg
  subst hP hw hK
  obtain⟨xs,x,hq,hx⟩:=hg
  obtain⟨its,rv,p,hz⟩:=I.list hq
  obtain⟨u,hu,ru⟩:=rv.get hx
  obtain⟨f0,f1,f2,f3,f4,f5⟩:=hf it (by simp)
  refine wpAny_pyNext_list_item st p.isList (x:=u) (by simpa using hu) fun h' st' sb=>?_
  have I1:Inv X pins σ H { s with heap:=h' }:=I.turned (t':=s.toks) (fun b o hb e=>(sb.2 b hb).trans e) f0 f1 f3 f4 f5
  obtain⟨o,e,c,d⟩:=id st'
  exact⟨u,rfl,dq (s:={ s with heap:=h' }) e c d (by decide) ⟨x,H,I1,ru,⟨rfl,fun ys hy=>by rw [I.list_inj hy hq];exact hx⟩,st',fun b hb=>(hf b hb).1⟩⟩
 done:=by
  intro X hP hw hK hc i pins s σ H E I hf st hg
  subst hP hw hK
  obtain⟨xs,hq,hx⟩:=hg
  obtain⟨its,rv,p,hz⟩:=I.list hq
  obtain⟨f0,f1,f2,f3,f4,f5⟩:=hf it (by simp)
  have hl:=rv.length
  exact wpAny_pyNext_list_end (I.ok.hd hc) st p.isList (by simp;omega) fun h' eb=>⟨rfl,I.turned (t':=s.toks) (fun b o hb e=>eb b o hb e) f0 f1 f3 f4 f5⟩
 self:=fun _ _ _ _ _ st h=>wpAny_pyIter_listiter st h
theorem lu {P:Program}{w:World}{K:PySem.W.Frag}{tg:Expr} (a it:Addr):Turn P w K tg (Itt K a) [it] it (fun i h=>h.IsTupleIter it a i) where
 mem:=by simp
 obj:=fun i h st b hb=>by
  have e:b=it:=by simpa using hb
  subst e
  obtain⟨o,e,c,d⟩:=st
  exact⟨o,e,fun v z=>by rw [d] at z;cases z⟩
 keep:=fun i h h' st k=>st.at fun o e=>k it (by simp) o e
 item:=by
  intro X hP hw hK hc i pins s σ H E I hf st hg
  subst hP hw hK
  obtain⟨xs,x,hq,hx⟩:=hg
  obtain⟨its,rv,p,hz⟩:=I.tuple hq
  obtain⟨u,hu,ru⟩:=rv.get hx
  obtain⟨f0,f1,f2,f3,f4,f5⟩:=hf it (by simp)
  refine wpAny_pyNext_tuple_item st (show s.heap.IsTuple a its.toArray from p) (x:=u) (by simpa using hu) fun h' st' sb=>?_
  have I1:Inv X pins σ H { s with heap:=h' }:=I.turned (t':=s.toks) (fun b o hb e=>(sb.2 b hb).trans e) f0 f1 f3 f4 f5
  obtain⟨o,e,c,d⟩:=id st'
  exact⟨u,rfl,dq (s:={ s with heap:=h' }) e c d (by decide) ⟨x,H,I1,ru,⟨rfl,fun ys hy=>by rw [I.tuple_inj hy hq];exact hx⟩,st',fun b hb=>(hf b hb).1⟩⟩
 done:=by
  intro X hP hw hK hc i pins s σ H E I hf st hg
  subst hP hw hK
  obtain⟨xs,hq,hx⟩:=hg
  obtain⟨its,rv,p,hz⟩:=I.tuple hq
  obtain⟨f0,f1,f2,f3,f4,f5⟩:=hf it (by simp)
  have hl:=rv.length
  exact wpAny_pyNext_tuple_end (I.ok.hd hc) st (show s.heap.IsTuple a its.toArray from p) (by simp;omega) fun h' eb=>⟨rfl,I.turned (t':=s.toks) (fun b o hb e=>eb b o hb e) f0 f1 f3 f4 f5⟩
 self:=fun _ _ _ _ _ st h=>wpAny_pyIter_tupleiter st h
theorem lO {P:Program}{w:World}{K:PySem.W.Frag}{tg:Expr} (it:Addr) (lo:Int) (n:Nat):Turn P w K tg (Itr lo n) [it] it (fun i h=>IsRangeIter h it (lo + (i:Nat) * 1) ((n:Int) - (i:Nat)) 1) where
 mem:=by simp
 obj:=fun i h st b hb=>by
  have e:b=it:=by simpa using hb
  subst e
  exact⟨_,st,fun v z=>by
   have z':Data.fields _=Data.cell v:=z
   cases z'⟩
 keep:=fun i h h' st k=>k it (by simp) _ st
 item:=by
  intro X hP hw hK hc i pins s σ H E I hf st hg
  subst hP hw hK
  obtain⟨f0,f1,f2,f3,f4,f5⟩:=hf it (by simp)
  have W:=Walks.range (prog:=X.prog) (w:=X.w) (I.ok.hd hc) it lo 1 n
  refine W.item i s _ _ hg st fun v h' tk hv st' kk=>?_
  obtain⟨t,rfl⟩:=hv
  have I1:Inv X pins σ H { s with heap:=h',toks:=tk }:=I.turned (fun b o hb e=>kk b o (by simpa using hb) e) f0 f1 f3 f4 f5
  refine⟨_,rfl,dq (s:={ s with heap:=h',toks:=tk }) (n:="range_iterator") st' rfl rfl (by decide) ⟨.int (lo + i),H,I1,⟨t,?_⟩,⟨rfl,rfl⟩,st',fun b hb=>(hf b hb).1⟩⟩
  rw [Int.mul_one]
 done:=by
  intro X hP hw hK hc i pins s σ H E I hf st hg
  subst hP hw hK
  obtain⟨f0,f1,f2,f3,f4,f5⟩:=hf it (by simp)
  exact wpAny_pyNext_range_end (I.ok.hd hc) st (by have:n<=i:=hg;omega) fun h' eb=>⟨rfl,I.turned (t':=s.toks) (fun b o hb e=>eb b o hb e) f0 f1 f3 f4 f5⟩
 self:=fun _ _ _ _ _ st h=>wpAny_pyIter_rangeiter st h
section
variable {X:Cx}{tg:Expr}
noncomputable def jZ (K:PySem.W.Frag) (tl:TE):TI:=fun σ H R=>tl σ H fun x H1=>∃a,x=.ref a/\(∃xs,SqL K H1 a xs)/\R (Itl K a) H1
noncomputable def kq (K:PySem.W.Frag) (tl:TE):TI:=fun σ H R=>tl σ H fun x H1=>∃a,x=.ref a/\(∃xs,SqT K H1 a xs)/\R (Itt K a) H1
theorem b9 {l:Expr}{tl:TE} (hl:PE X l tl):PI X tg l (jZ X.K tl):=by
 intro pins s σ H R I h
 refine thn (hl pins s σ H _ I h) fun v s1 ⟨x,H1,I1,r1,q1⟩=>?_
 obtain⟨a,e,⟨xs,hq⟩,q⟩:=q1
 subst e
 cases r1
 obtain⟨its,rv,p,hz⟩:=I1.list hq
 refine wpAny_pyIter_list p.isList ?_
 refine⟨s1.heap.objs.size,[s1.heap.objs.size],_,_,H1,rfl,I1.kept (t':=s1.toks) fun b o e=>Heap.get?_push_of_some _ e,lT a _,⟨_,Heap.get?_push_size _ rfl,rfl,rfl⟩,fun b hb=>?_,q⟩
 have e:b=s1.heap.objs.size:=by simpa using hb
 subst e
 exact I1.fpOk (Nat.le_refl _) (I1.hok.fresh (Nat.le_refl _))
theorem cb {l:Expr}{tl:TE} (hl:PE X l tl):PI X tg l (kq X.K tl):=by
 intro pins s σ H R I h
 refine thn (hl pins s σ H _ I h) fun v s1 ⟨x,H1,I1,r1,q1⟩=>?_
 obtain⟨a,e,⟨xs,hq⟩,q⟩:=q1
 subst e
 cases r1
 obtain⟨its,rv,p,hz⟩:=I1.tuple hq
 refine wpAny_pyIter_tuple (show s1.heap.IsTuple a its.toArray from p) ?_
 refine⟨s1.heap.objs.size,[s1.heap.objs.size],_,_,H1,rfl,I1.kept (t':=s1.toks) fun b o e=>Heap.get?_push_of_some _ e,lu a _,⟨_,Heap.get?_push_size _ rfl,rfl,rfl⟩,fun b hb=>?_,q⟩
 have e:b=s1.heap.objs.size:=by simpa using hb
 subst e
 exact I1.fpOk (Nat.le_refl _) (I1.hok.fresh (Nat.le_refl _))
theorem iy {pins:List (Addr×Obj)}{σ:St}{H:Hp}{s:Shared}{R:It->Hp->Prop}{E:Value->Shared->Prop}{lo hi:Int}{t u v:Tok}{tk:Nat} (I:Inv X pins σ H s) (h1:-(2 ^ 62)<=lo) (h2:lo < 2 ^ 62) (h3:-(2 ^ 62)<=hi) (h4:hi < 2 ^ 62)
  (q:R (Itr lo (hi - lo).toNat) H):wpAny (model X.prog X.w) X.A (pyIter (.ref s.heap.objs.size)) (PIE X pins σ tg R) E { s with heap:=s.heap.push { cls:=.type "range",data:=.fields #[.int lo t,.int hi u,.int 1 v] },toks:=tk }:=by
 refine wpAny_pyIter_range (IsRange.new ..) (small_one h1 h2 h3 h4) ?_
 have I1:Inv X pins σ H { s with heap:=s.heap.push { cls:=.type "range",data:=.fields #[.int lo t,.int hi u,.int 1 v] },toks:=tk }:=I.kept fun b o e=>Heap.get?_push_of_some _ e
 refine⟨(s.heap.push { cls:=.type "range",data:=.fields #[.int lo t,.int hi u,.int 1 v] }).objs.size,[(s.heap.push { cls:=.type "range",data:=.fields #[.int lo t,.int hi u,.int 1 v] }).objs.size],_,_,H,rfl,
  I1.kept (t':=tk) fun b o e=>Heap.get?_push_of_some _ e,lO _ lo (hi - lo).toNat,?_,fun b hb=>?_,q⟩
 ·have e1:lo + ((0:Nat):Int) * 1=lo:=by simp
  have e2:(((hi - lo).toNat:Nat):Int) - ((0:Nat):Int)=Builtin.Range.rangeSize lo hi 1:=by rw [rangeSize_one];split <;> omega
  show IsRangeIter _ _ (lo + ((0:Nat):Int) * 1) ((((hi - lo).toNat:Nat):Int) - ((0:Nat):Int)) 1
  rw [e1,e2]
  exact Heap.get?_push_size _ rfl
 ·have e:b=(s.heap.push { cls:=.type "range",data:=.fields #[.int lo t,.int hi u,.int 1 v] }).objs.size:=by simpa using hb
  subst e
  exact I1.fpOk (Nat.le_refl _) (I1.hok.fresh (Nat.le_refl _))
noncomputable def qG (ta:TA):TI:=fun σ H R=>ta σ H fun vs H1=>∃j:Int,vs=[.int j]/\-(2 ^ 62)<=j/\j < 2 ^ 62/\R (Itr 0 j.toNat) H1
noncomputable def qF (ta:TA):TI:=fun σ H R=>ta σ H fun vs H1=>∃i j:Int,vs=[.int i,.int j]/\(-(2 ^ 62)<=i/\i < 2 ^ 62/\-(2 ^ 62)<=j/\j < 2 ^ 62)/\R (Itr i (j - i).toNat) H1
theorem bS {a:Expr}{ta:TA}{p pos:Pos} (hg:Gl X "range") (hm:X.mg "range"=none) (ha:PA X [a] ta) (hs:starEach [a] X.env=[(false,eval a X.env)]:=by rfl):PI X tg (.Call (.Name "range" p) [a] [] pos) (qG ta):=by
 intro pins s σ H R I h
 refine Call_ (bO I hg hm boot_range (PyProof.Rows.callWith_type1 (thn (ha pos pins s σ H _ I h) fun us s1 ⟨vs,H1,I1,r1,q1⟩=>?_) hs rfl))
 obtain⟨j,e,q1,q2,q⟩:=q1
 subst e
 cases r1 with
 | cons r rr =>
  cases rr
  obtain⟨t,rfl⟩:=r
  exact call_range_1 (iy I1 (by omega) (by omega) q1 q2 (by simpa using q))
theorem mz {a b:Expr}{ta:TA}{p pos:Pos} (hg:Gl X "range") (hm:X.mg "range"=none) (ha:PA X [a,b] ta) (hs:starEach [a,b] X.env=[(false,eval a X.env),(false,eval b X.env)]:=by rfl) (hs2:starEach [b] X.env=[(false,eval b X.env)]:=by rfl) :
  PI X tg (.Call (.Name "range" p) [a,b] [] pos) (qF ta):=by
 intro pins s σ H R I h
 refine Call_ (bO I hg hm boot_range (PyProof.Rows.callWith_type1 (thn (ha pos pins s σ H _ I h) fun us s1 ⟨vs,H1,I1,r1,q1⟩=>?_) (by rw [hs,hs2]) (by rw [hs2];rfl)))
 obtain⟨i,j,e,⟨q1,q2,q3,q4⟩,q⟩:=q1
 subst e
 cases r1 with
 | cons r rr =>
  cases rr with
  | cons r' rr =>
   cases rr
   obtain⟨t,rfl⟩:=r
   obtain⟨t',rfl⟩:=r'
   exact call_range_2 (iy I1 q1 q2 q3 q4 q)
noncomputable def ki (wi:TI) (g:TG) (tb:TS):TS:=fun D σ H=>wi σ H fun J H1=>∃W:Nat->Nat->St->Hp->Prop,(∃m,W 0 m σ H1)/\∀i m σ H,W i m σ H ->
 (J.stop i H/\D.nx σ H)\/(J.go i H/\∃N:St->Hp->Prop,(∀σ' H',N σ' H'->∃m',m' < m/\W (i + 1) m' σ' H')/\∀x H',J.yld i H x H'->g x σ H' fun σ2 H2=>tb { D with nx:=N,ct:=N,bk:=D.nx } σ2 H2)
noncomputable def dk (fp:List Addr) (h:Heap):List (Addr×Obj):=fp.filterMap fun b=>(h.get? b).map fun o=>(b,o)
theorem c8 {fp:List Addr}{h:Heap}{b:Addr}{o:Obj} (hb:b∈fp) (e:h.get? b=some o):(b,o)∈dk fp h:=List.mem_filterMap.mpr ⟨b,hb,by rw [e];rfl⟩
theorem lY {fp:List Addr}{h:Heap}{p:Addr×Obj} (hp:p∈dk fp h):p.1∈fp/\h.get? p.1=some p.2:=by
 obtain⟨b,hb,e⟩:=List.mem_filterMap.mp hp
 cases q:h.get? b with
 | none=>rw [q] at e;cases e
 | some o =>
  rw [q] at e
  have e':(b,o)=p:=Option.some.inj e
  subst e'
  exact⟨hb,q⟩
theorem Inv.pinned {pins:List (Addr×Obj)}{σ:St}{H:Hp}{s:Shared}{fp:List Addr} (I:Inv X pins σ H s) (hf:∀b∈fp,br X pins H b) (ho:∀b∈fp,∃o,s.heap.get? b=some o/\∀v,o.data≠.cell v):Inv X (pins++dk fp s.heap) σ H s :=
 I.pins_of fun p hp=>(List.mem_append.mp hp).elim (fun z=>I.pin p (List.mem_append_right _ z)) fun z=>by
  obtain⟨hb,e⟩:=lY z
  obtain⟨f0,f1,f2,_⟩:=hf p.1 hb
  obtain⟨o,e',d⟩:=ho p.1 hb
  rw [e] at e';cases e'
  exact⟨e,f0,f1,f2,d⟩
theorem Inv.unpinned {pins pl:List (Addr×Obj)}{σ:St}{H:Hp}{s:Shared} (I:Inv X (pins++pl) σ H s):Inv X pins σ H s:=I.pins_of fun p hp=>I.pin p (List.mem_append_right _ (List.mem_append_left _ hp))
theorem bU {iter:Expr}{body:List Stmt}{wi:TI}{g:TG}{tb:TS}{pos:Pos} (hp:PassesOwn (model X.prog X.w) X.A X.env X.xe) (hc:X.calm=true) (hi:PI X tg iter wi) (hg:PG X tg g) (hb:PSs X body tb)
  (hs:∀x,foldedSetIterable iter X.env x=pure x:=by intro _;rfl):PS X (.For tg iter body [] pos) (ki wi g tb):=by
 intro pins s σ H D I h
 refine wpAny_For (thn (hi pins s σ H _ I h) fun v s1 h1=>thn h1 fun itv s2 h2=>?_) hs
 obtain⟨it,fp,tn,J,H2,e,I2,T,st2,f2,W,⟨m0,w0⟩,turn⟩:=h2
 subst e
 have stat:∀{H':Hp},(∀b∈fp,H' b=none)->∀b∈fp,br X pins H' b:=fun hn b hb=>⟨hn b hb,(f2 b hb).2⟩
 refine codeAny_forLoop_any (fun n s'=>∃i σ' H',Inv X pins σ' H' s'/\tn i s'.heap/\(∀b∈fp,H' b=none)/\W i n σ' H') ?_ m0 ⟨0,σ,H2,I2,st2,fun b hb=>(f2 b hb).1,w0⟩
 rintro n s3 ⟨i,σ3,H3,I3,st3,fr3,w3⟩
 rcases turn i n σ3 H3 w3 with ⟨stop,qn⟩ | ⟨go,N,hN,step⟩
 ·refine wpAny_passesOwn hp (thn (T.done X rfl rfl rfl hc i pins s3 σ3 H3 X.xe I3 (stat fr3) st3 stop) fun r s4 ⟨hr,I4⟩=>?_)
  subst hr
  exact wpAny_execs_nil ⟨σ3,H3,I4,qn⟩
 ·refine wpAny_passesOwn hp (thn (T.item X rfl rfl rfl hc i pins s3 σ3 H3 X.xe I3 (stat fr3) st3 go) fun r s4 ⟨u,hr,h4⟩=>?_)
  subst hr
  refine wpAny_passesOwn hp (thn h4 fun _ s5 ⟨x,H5,I5,r5,y5,st5,fr5⟩=>?_)
  have I5':=I5.pinned (stat fr5) (T.obj _ _ st5)
  refine wpAny_passesOwn hp (thn (hg _ s5 σ3 H5 x u _ I5' r5 (step x H5 y5)) fun _ s6 ⟨σ6,H6,I6,q6⟩=>?_)
  refine wpAny_passesOwn hp (thn (hb _ s6 σ6 H6 _ I6 q6) fun f s7 q7=>?_)
  have again:∀{σ7:St}{H7:Hp},Inv X (pins++dk fp s5.heap) σ7 H7 s7->N σ7 H7->∃m,m < n/\∃i σ' H',Inv X pins σ' H' s7/\tn i s7.heap/\(∀b∈fp,H' b=none)/\W i m σ' H':=fun {σ7 H7} I7 n7=>by
   obtain⟨m',hm,w7⟩:=hN σ7 H7 n7
   refine⟨m',hm,i + 1,σ7,H7,I7.unpinned,T.keep _ _ _ st5 fun b hb o e=>(I7.pin (b,o) (List.mem_append_right _ (List.mem_append_right _ (c8 hb e)))).1,fun b hb=>?_,w7⟩
   obtain⟨o,e,d⟩:=T.obj _ _ st5 b hb
   exact (I7.pin (b,o) (List.mem_append_right _ (List.mem_append_right _ (c8 hb e)))).2.1
  cases f with
  | next=>obtain⟨σ7,H7,I7,n7⟩:=q7;exact again I7 n7
  | cont=>obtain⟨σ7,H7,I7,n7⟩:=q7;exact again I7 n7
  | brk=>obtain⟨σ7,H7,I7,q7⟩:=q7;exact⟨σ7,H7,I7.unpinned,q7⟩
  | ret v=>obtain⟨x7,σ7,H7,I7,r7,q7⟩:=q7;exact⟨x7,σ7,H7,I7.unpinned,r7,q7⟩
end
theorem fu {K:PySem.W.Frag}{a:Addr}{xs:List V}{g:TG}{tb:TS}{D:Ends}{σ:St}{H:Hp} (Pv:Nat->St->Hp->Prop) (h0:Pv 0 σ H) (hl:∀i σ H,i<=xs.length->Pv i σ H->SqL K H a xs)
  (hs:∀i x σ H,xs[i]?=some x->Pv i σ H->g x σ H fun σ2 H2=>tb { D with nx:=Pv (i + 1),ct:=Pv (i + 1),bk:=D.nx } σ2 H2) (hd:∀σ H,Pv xs.length σ H->D.nx σ H) :
  ∃W:Nat->Nat->St->Hp->Prop,(∃m,W 0 m σ H)/\∀i m σ H,W i m σ H ->
   ((Itl K a).stop i H/\D.nx σ H)\/((Itl K a).go i H/\∃N:St->Hp->Prop,(∀σ' H',N σ' H'->∃m',m' < m/\W (i + 1) m' σ' H')/\∀x H',(Itl K a).yld i H x H'->g x σ H' fun σ2 H2=>tb { D with nx:=N,ct:=N,bk:=D.nx } σ2 H2):=by
 refine⟨fun i m σ H=>m=xs.length - i/\i<=xs.length/\Pv i σ H,⟨xs.length,by simp,Nat.zero_le _,h0⟩,?_⟩
 rintro i m σ H ⟨rfl,hi,p⟩
 have q:=hl i σ H hi p
 by_cases hlt:i < xs.length
 ·refine .inr ⟨⟨xs,xs[i],q,by simp [hlt]⟩,Pv (i + 1),fun σ' H' p'=>⟨xs.length - (i + 1),by omega,rfl,hlt,p'⟩,fun x H' y=>?_⟩
  obtain⟨e,y⟩:=y
  subst e
  exact hs i x σ _ (y xs q) p
 ·have e:i=xs.length:=by omega
  subst e
  exact .inl ⟨⟨xs,q,Nat.le_refl _⟩,hd σ H p⟩
theorem fG {K:PySem.W.Frag}{a:Addr}{xs:List V}{g:TG}{tb:TS}{D:Ends}{σ:St}{H:Hp} (Pv:Nat->St->Hp->Prop) (h0:Pv 0 σ H) (hl:∀i σ H,i<=xs.length->Pv i σ H->SqT K H a xs)
  (hs:∀i x σ H,xs[i]?=some x->Pv i σ H->g x σ H fun σ2 H2=>tb { D with nx:=Pv (i + 1),ct:=Pv (i + 1),bk:=D.nx } σ2 H2) (hd:∀σ H,Pv xs.length σ H->D.nx σ H) :
  ∃W:Nat->Nat->St->Hp->Prop,(∃m,W 0 m σ H)/\∀i m σ H,W i m σ H ->
   ((Itt K a).stop i H/\D.nx σ H)\/((Itt K a).go i H/\∃N:St->Hp->Prop,(∀σ' H',N σ' H'->∃m',m' < m/\W (i + 1) m' σ' H')/\∀x H',(Itt K a).yld i H x H'->g x σ H' fun σ2 H2=>tb { D with nx:=N,ct:=N,bk:=D.nx } σ2 H2):=by
 refine⟨fun i m σ H=>m=xs.length - i/\i<=xs.length/\Pv i σ H,⟨xs.length,by simp,Nat.zero_le _,h0⟩,?_⟩
 rintro i m σ H ⟨rfl,hi,p⟩
 have q:=hl i σ H hi p
 by_cases hlt:i < xs.length
 ·refine .inr ⟨⟨xs,xs[i],q,by simp [hlt]⟩,Pv (i + 1),fun σ' H' p'=>⟨xs.length - (i + 1),by omega,rfl,hlt,p'⟩,fun x H' y=>?_⟩
  obtain⟨e,y⟩:=y
  subst e
  exact hs i x σ _ (y xs q) p
 ·have e:i=xs.length:=by omega
  subst e
  exact .inl ⟨⟨xs,q,Nat.le_refl _⟩,hd σ H p⟩
theorem fm {lo:Int}{n:Nat}{g:TG}{tb:TS}{D:Ends}{σ:St}{H:Hp} (Pv:Nat->St->Hp->Prop) (h0:Pv 0 σ H)
  (hs:∀i σ H,i < n->Pv i σ H->g (.int (lo + i)) σ H fun σ2 H2=>tb { D with nx:=Pv (i + 1),ct:=Pv (i + 1),bk:=D.nx } σ2 H2) (hd:∀σ H,Pv n σ H->D.nx σ H) :
  ∃W:Nat->Nat->St->Hp->Prop,(∃m,W 0 m σ H)/\∀i m σ H,W i m σ H ->
   ((Itr lo n).stop i H/\D.nx σ H)\/((Itr lo n).go i H/\∃N:St->Hp->Prop,(∀σ' H',N σ' H'->∃m',m' < m/\W (i + 1) m' σ' H')/\∀x H',(Itr lo n).yld i H x H'->g x σ H' fun σ2 H2=>tb { D with nx:=N,ct:=N,bk:=D.nx } σ2 H2):=by
 refine⟨fun i m σ H=>m=n - i/\i<=n/\Pv i σ H,⟨n,by simp,Nat.zero_le _,h0⟩,?_⟩
 rintro i m σ H ⟨rfl,hi,p⟩
 by_cases hlt:i < n
 ·refine .inr ⟨hlt,Pv (i + 1),fun σ' H' p'=>⟨n - (i + 1),by omega,rfl,hlt,p'⟩,fun x H' y=>?_⟩
  obtain⟨e,y⟩:=y
  subst e y
  exact hs i σ _ hlt p
 ·have e:i=n:=by omega
  subst e
  exact .inl ⟨Nat.le_refl _,hd σ H p⟩
noncomputable abbrev R2:=V->V->Hp->VK->Prop
noncomputable def OpR (X:Cx) (f:Value->Value->Sem Value) (r:R2):Prop :=
 ∀(pins:List (Addr×Obj)) (s:Shared) (σ:St) (H:Hp) (x y:V) (v u:Value) (Q:VK),Inv X pins σ H s->RelV x v->RelV y u->r x y H Q ->
  wpAny (model X.prog X.w) X.A (f v u) (EP X pins σ Q) X.xe s
noncomputable def UnR (X:Cx) (f:Value->Sem Value) (r:V->Hp->VK->Prop):Prop :=
 ∀(pins:List (Addr×Obj)) (s:Shared) (σ:St) (H:Hp) (x:V) (v:Value) (Q:VK),Inv X pins σ H s->RelV x v->r x H Q ->
  wpAny (model X.prog X.w) X.A (f v) (EP X pins σ Q) X.xe s
noncomputable def bj (X:Cx) (f:Value) (r:List V->Hp->VK->Prop):Prop :=
 ∀(pins:List (Addr×Obj)) (s:Shared) (σ:St) (H:Hp) (xs:List V) (us:List Value) (Q:VK),Inv X pins σ H s->am xs us->r xs H Q ->
  wpAny (model X.prog X.w) X.A (call f us) (EP X pins σ Q) X.xe s
noncomputable def tOp (r:R2) (ta tb:TE):TE:=fun σ H Q=>ta σ H fun x H1=>tb σ H1 fun y H2=>r x y H2 Q
noncomputable def tUn (r:V->Hp->VK->Prop) (ta:TE):TE:=fun σ H Q=>ta σ H fun x H1=>r x H1 Q
noncomputable def rI (C:Int->Int->Prop) (g:Int->Int->V):R2:=fun x y H Q=>∃i j,x=.int i/\y=.int j/\C i j/\Q (g i j) H
noncomputable def rI0 (g:Int->Int->V):R2:=fun x y H Q=>∃i j,x=.int i/\y=.int j/\Q (g i j) H
noncomputable def rU (g:Int->V):V->Hp->VK->Prop:=fun x H Q=>∃i,x=.int i/\Q (g i) H
section
variable {X:Cx}{a b c:Expr}{ta tb tc:TE}{pos:Pos}
theorem gu (ha:PE X a ta) (hb:PE X b tb) {pins:List (Addr×Obj)}{s:Shared}{σ:St}{H:Hp}{R:V->V->Hp->Prop} (I:Inv X pins σ H s)
  (h:ta σ H fun x H1=>tb σ H1 fun y H2=>R x y H2) {Q:Value->Shared->Prop}{f:Value->Value->Sem Value}
  (hf:∀v u s2 x y H2,Inv X pins σ H2 s2->RelV x v->RelV y u->R x y H2->wpAny (model X.prog X.w) X.A (f v u) Q X.xe s2) :
  wpAny (model X.prog X.w) X.A (eval a X.env) (fun v s₁=>wpAny (model X.prog X.w) X.A (eval b X.env) (fun u s₂=>wpAny (model X.prog X.w) X.A (f v u) Q X.xe s₂) X.xe s₁) X.xe s:=by
 refine thn (ha pins s σ H _ I h) fun v s1 ⟨x,H1,I1,r1,q1⟩=>?_
 refine thn (hb pins s1 σ H1 _ I1 q1) fun u s2 ⟨y,H2,I2,r2,q2⟩=>?_
 exact hf v u s2 x y H2 I2 r1 r2 q2
theorem av {op:Operator}{r:R2} (ho:OpR X (binaryOp op) r) (ha:PE X a ta) (hb:PE X b tb):PE X (.BinOp a op b pos) (tOp r ta tb):=by
 intro pins s σ H Q I h
 exact wpAny_BinOp (gu ha hb I h fun v u s2 x y H2 I2 rx ry q=>ho pins s2 σ H2 x y v u Q I2 rx ry q)
theorem qz {op:UnaryOp}{r:V->Hp->VK->Prop} (ho:UnR X (unaryOp op) r) (ha:PE X a ta):PE X (.UnaryOp op a pos) (tUn r ta):=by
 intro pins s σ H Q I h
 exact UnaryOp_ (thn (ha pins s σ H _ I h) fun v s1 ⟨x,H1,I1,r1,q1⟩=>ho pins s1 σ H1 x v Q I1 r1 q1)
theorem opI {f:Value->Value->Sem Value}{C:Int->Int->Prop}{g:Int->Int->Int}
  (rule:∀(i j:Int) (t u:Tok) (s:Shared) (Q:Value->Shared->Prop) (E:Value->Shared->Prop),C i j->Q (.int (g i j) s.toks) { s with toks:=s.toks + 1 }->wpAny (model X.prog X.w) X.A (f (.int i t) (.int j u)) Q E s) :
  OpR X f (rI C fun i j=>.int (g i j)):=by
 intro pins s σ H x y v u Q I rx ry h
 obtain⟨i,j,rfl,rfl,hc,q⟩:=h
 obtain⟨t,rfl⟩:=rx
 obtain⟨t',rfl⟩:=ry
 exact rule i j t t' s _ _ hc ⟨.int (g i j),H,I.tok _,⟨_,rfl⟩,q⟩
theorem ko {f:Value->Value->Sem Value}{g:Int->Int->Int}
  (rule:∀(i j:Int) (t u:Tok) (s:Shared) (Q:Value->Shared->Prop) (E:Value->Shared->Prop),Q (.int (g i j) s.toks) { s with toks:=s.toks + 1 }->wpAny (model X.prog X.w) X.A (f (.int i t) (.int j u)) Q E s) :
  OpR X f (rI0 fun i j=>.int (g i j)):=by
 intro pins s σ H x y v u Q I rx ry h
 obtain⟨i,j,rfl,rfl,q⟩:=h
 obtain⟨t,rfl⟩:=rx
 obtain⟨t',rfl⟩:=ry
 exact rule i j t t' s _ _ ⟨.int (g i j),H,I.tok _,⟨_,rfl⟩,q⟩
theorem gh {f:Value->Value->Sem Value}{g:Int->Int->Bool}
  (rule:∀(i j:Int) (t u:Tok) (s:Shared) (Q:Value->Shared->Prop) (E:Value->Shared->Prop),Q (.bool (g i j)) s->wpAny (model X.prog X.w) X.A (f (.int i t) (.int j u)) Q E s) :
  OpR X f (rI0 fun i j=>.bl (g i j)):=by
 intro pins s σ H x y v u Q I rx ry h
 obtain⟨i,j,rfl,rfl,q⟩:=h
 obtain⟨t,rfl⟩:=rx
 obtain⟨t',rfl⟩:=ry
 exact rule i j t t' s _ _ ⟨.bl (g i j),H,I,rfl,q⟩
noncomputable def qX (i j:Int):Prop:=0 < j/\j < 1073741824
noncomputable def rB (i j:Int):Prop:=0<=j/\j<=1000000/\i.natAbs < 2 ^ 64
noncomputable def gw (i j:Int):Prop:=(-(2 ^ 64) < i/\i < 2 ^ 64)\/(-(2 ^ 64) < j/\j < 2 ^ 64)
theorem gw.ok {i j:Int} (h:gw i j):IntMulOk i j:=by
 rcases h with ⟨h1,h2⟩ | ⟨h1,h2⟩
 ·exact .of_left (intBits_le_64 h1 h2)
 ·exact .of_right (intBits_le_64 h1 h2)
theorem bK:OpR X (binaryOp .Add) (rI0 fun i j=>.int (i + j)):=ko fun _ _ _ _ _ _ _ q=>add_int q
theorem cU:OpR X (binaryOp .Sub) (rI0 fun i j=>.int (i - j)):=ko fun _ _ _ _ _ _ _ q=>sub_int q
theorem cT:OpR X (binaryOp .Mult) (rI gw fun i j=>.int (i * j)):=opI fun _ _ _ _ _ _ _ hc q=>mul_int q hc.ok
theorem nR:OpR X (binaryOp .FloorDiv) (rI qX fun i j=>.int (i / j)):=opI fun i j _ _ _ _ _ hc q=>by
 have h1:(0:Int) < j:=hc.1
 have h2:j < 1073741824:=hc.2
 exact floordiv_int (by omega) (by rw [Int.fdiv_eq_ediv_of_nonneg i (by omega)];exact q) (.inl (PyProof.noPylong_small (by omega)))
theorem cW:OpR X (binaryOp .Mod) (rI (fun _ j=>0 < j) fun i j=>.int (i % j)):=opI fun i j _ _ _ _ _ hc q=>by
 have h1:(0:Int) < j:=hc
 exact mod_int' (by omega) (by rw [Int.fmod_eq_emod_of_nonneg i (by omega)];exact q)
theorem jB:OpR X (binaryOp .Pow) (rI rB fun i j=>.int (i ^ j.toNat)):=opI fun _ _ _ _ _ _ _ hc q=>pow_int_small hc.1 hc.2.1 hc.2.2 q
theorem unI {f:Value->Sem Value}{g:Int->Int}
  (rule:∀(i:Int) (t:Tok) (s:Shared) (Q:Value->Shared->Prop) (E:Value->Shared->Prop),Q (.int (g i) s.toks) { s with toks:=s.toks + 1 }->wpAny (model X.prog X.w) X.A (f (.int i t)) Q E s) :
  UnR X f (rU fun i=>.int (g i)):=by
 intro pins s σ H x v Q I rx h
 obtain⟨i,rfl,q⟩:=h
 obtain⟨t,rfl⟩:=rx
 exact rule i t s _ _ ⟨.int (g i),H,I.tok _,⟨_,rfl⟩,q⟩
theorem p4:UnR X (unaryOp .USub) (rU fun i=>.int (-i)):=unI fun _ _ _ _ _ q=>neg_int q
end
noncomputable def ku:V->V->Bool
 | .non,.non=>true | .non,.int _=>true | .int _,.non=>true | .non,.bl _=>true | .bl _,.non=>true | .non,.str _=>true | .str _,.non=>true
 | .int _,.int _=>true | .bl _,.bl _=>true | .str _,.str _=>true | .byt _,.byt _=>true
 | .int _,.str _=>true | .str _,.int _=>true | .bl _,.str _=>true | .str _,.bl _=>true
 | _,_=>false
noncomputable def rEq:R2:=fun x y H Q=>ku x y=true/\Q (.bl (decide (x=y))) H
noncomputable def rNe:R2:=fun x y H Q=>ku x y=true/\Q (.bl (!decide (x=y))) H
theorem jc {i j:Int}:decide (V.int i=V.int j)=(i == j):=by
 rw [Bool.eq_iff_iff]
 simp
theorem jx {i j:Bool}:decide (V.bl i=V.bl j)=(i == j):=by
 rw [Bool.eq_iff_iff]
 simp
theorem jl {i j:Str}:decide (V.str i=V.str j)=(i == j):=by
 rw [Bool.eq_iff_iff]
 simp
theorem jj {i j:Array UInt8}:decide (V.byt i=V.byt j)=(i.toList == j.toList):=by
 rw [Bool.eq_iff_iff]
 cases i
 cases j
 simp
section
variable {X:Cx}{a b c:Expr}{ta tb tc:TE}{pos:Pos}
theorem aP {pins:List (Addr×Obj)}{σ:St}{H:Hp}{s:Shared}{Q:VK}{k k':Bool} (I:Inv X pins σ H s) (q:Q (.bl k) H) (e:k=k'):EP X pins σ Q (.bool k') s:=by
 subst e
 exact⟨.bl k,H,I,rfl,q⟩
theorem cZ:OpR X (compareOp .Eq) rEq:=by
 intro pins s σ H x y v u Q I rx ry h
 obtain⟨hs,q⟩:=h
 cases x with
 | non =>
  cases rx
  cases y with
  | non=>cases ry;exact PySem.EqNone.eq_none_none (aP I q (by simp))
  | bl j=>cases ry;exact PySem.EqNone.eq_none_bool (aP I q (by simp))
  | int j=>obtain⟨t',rfl⟩:=ry;exact PySem.EqNone.eq_none_int (aP I q (by simp))
  | str j=>obtain⟨t',rfl⟩:=ry;exact PySem.EqNone.eq_none_str (aP I q (by simp))
  | _=>exact absurd (show false=true from hs) Bool.false_ne_true
 | bl i =>
  cases rx
  cases y with
  | non=>cases ry;exact PySem.EqNone.eq_bool_none (aP I q (by simp))
  | bl j=>cases ry;exact eq_bool (aP I q jx)
  | str j=>obtain⟨t',rfl⟩:=ry;exact PySem.EqMixed.eq_bool_str (aP I q (by simp))
  | _=>exact absurd (show false=true from hs) Bool.false_ne_true
 | int i =>
  obtain⟨t,rfl⟩:=rx
  cases y with
  | non=>cases ry;exact PySem.EqNone.eq_int_none (aP I q (by simp))
  | int j=>obtain⟨t',rfl⟩:=ry;exact eq_int (aP I q jc)
  | str j=>obtain⟨t',rfl⟩:=ry;exact PySem.EqMixed.eq_int_str (aP I q (by simp))
  | _=>exact absurd (show false=true from hs) Bool.false_ne_true
 | str i =>
  obtain⟨t,rfl⟩:=rx
  cases y with
  | non=>cases ry;exact PySem.EqNone.eq_str_none (aP I q (by simp))
  | bl j=>cases ry;exact PySem.EqMixed.eq_str_bool (aP I q (by simp))
  | int j=>obtain⟨t',rfl⟩:=ry;exact PySem.EqMixed.eq_str_int (aP I q (by simp))
  | str j=>obtain⟨t',rfl⟩:=ry;exact eq_str (aP I q jl)
  | _=>exact absurd (show false=true from hs) Bool.false_ne_true
 | byt i =>
  obtain⟨t,rfl⟩:=rx
  cases y with
  | byt j=>obtain⟨t',rfl⟩:=ry;exact PySem.W.eq_bytes (aP I q jj)
  | _=>exact absurd (show false=true from hs) Bool.false_ne_true
 | _=>cases y <;> exact absurd (show false=true from hs) Bool.false_ne_true
theorem bv:OpR X (compareOp .NotEq) rNe:=by
 intro pins s σ H x y v u Q I rx ry h
 obtain⟨hs,q⟩:=h
 cases x with
 | non =>
  cases rx
  cases y with
  | non=>cases ry;exact PySem.EqNone.ne_none_none (aP I q (by simp))
  | bl j=>cases ry;exact PySem.EqNone.ne_none_bool (aP I q (by simp))
  | int j=>obtain⟨t',rfl⟩:=ry;exact PySem.EqNone.ne_none_int (aP I q (by simp))
  | str j=>obtain⟨t',rfl⟩:=ry;exact PySem.EqNone.ne_none_str (aP I q (by simp))
  | _=>exact absurd (show false=true from hs) Bool.false_ne_true
 | bl i =>
  cases rx
  cases y with
  | non=>cases ry;exact PySem.EqNone.ne_bool_none (aP I q (by simp))
  | bl j=>cases ry;exact ne_bool (aP I q (congrArg not jx))
  | str j=>obtain⟨t',rfl⟩:=ry;exact PySem.EqMixed.ne_bool_str (aP I q (by simp))
  | _=>exact absurd (show false=true from hs) Bool.false_ne_true
 | int i =>
  obtain⟨t,rfl⟩:=rx
  cases y with
  | non=>cases ry;exact PySem.EqNone.ne_int_none (aP I q (by simp))
  | int j=>obtain⟨t',rfl⟩:=ry;exact ne_int (aP I q (congrArg not jc))
  | str j=>obtain⟨t',rfl⟩:=ry;exact PySem.EqMixed.ne_int_str (aP I q (by simp))
  | _=>exact absurd (show false=true from hs) Bool.false_ne_true
 | str i =>
  obtain⟨t,rfl⟩:=rx
  cases y with
  | non=>cases ry;exact PySem.EqNone.ne_str_none (aP I q (by simp))
  | bl j=>cases ry;exact PySem.EqMixed.ne_str_bool (aP I q (by simp))
  | int j=>obtain⟨t',rfl⟩:=ry;exact PySem.EqMixed.ne_str_int (aP I q (by simp))
  | str j=>obtain⟨t',rfl⟩:=ry;exact ne_str (aP I q (congrArg not jl))
  | _=>exact absurd (show false=true from hs) Bool.false_ne_true
 | byt i =>
  obtain⟨t,rfl⟩:=rx
  cases y with
  | byt j=>obtain⟨t',rfl⟩:=ry;exact PySem.W.ne_bytes (aP I q (congrArg not jj))
  | _=>exact absurd (show false=true from hs) Bool.false_ne_true
 | _=>cases y <;> exact absurd (show false=true from hs) Bool.false_ne_true
theorem qq:OpR X (compareOp .Lt) (rI0 fun i j=>.bl (decide (i < j))):=gh fun _ _ _ _ _ _ _ q=>lt_int q
theorem jS:OpR X (compareOp .LtE) (rI0 fun i j=>.bl (decide (i<=j))):=gh fun _ _ _ _ _ _ _ q=>le_int q
theorem dW:OpR X (compareOp .Gt) (rI0 fun i j=>.bl (decide (j < i))):=gh fun _ _ _ _ _ _ _ q=>gt_int q
theorem lU:OpR X (compareOp .Lt) (fun x y H Q=>∃i j,x=.str i/\y=.str j/\Q (.bl (decide (i.cps.toList < j.cps.toList))) H):=by
 intro pins s σ H x y v u Q I rx ry h
 obtain⟨i,j,rfl,rfl,q⟩:=h
 obtain⟨t,rfl⟩:=rx
 obtain⟨t',rfl⟩:=ry
 exact lt_str (aP I q rfl)
theorem aN (b:Expr) {op:CmpOp} (h:op≠.In:=by decide) (h2:op≠.NotIn:=by decide):behindInMarks op b=false:=by
 have e1:(op == CmpOp.In)=false:=by cases op <;> first | rfl | exact absurd rfl h
 have e2:(op == CmpOp.NotIn)=false:=by cases op <;> first | rfl | exact absurd rfl h2
 cases b <;> simp [behindInMarks,e1,e2]
theorem eE {op:CmpOp}{r:R2} (ho:OpR X (compareOp op) r) (ha:PE X a ta) (hb:PE X b tb) (hm:behindInMarks op b=false):PE X (.Compare a [op] [b] pos) (tOp r ta tb):=by
 intro pins s σ H Q I h
 exact wpAny_Compare1 (gu ha hb I h fun v u s2 x y H2 I2 rx ry q=>ho pins s2 σ H2 x y v u Q I2 rx ry q) hm
noncomputable def j5 (t:TE):TT:=fun σ H Q=>t σ H fun x H'=>∃k,x=.bl k/\Q k H'
theorem aL {op:CmpOp}{r:R2} (ho:OpR X (compareOp op) r) (ha:PE X a ta) (hb:PE X b tb) (hm:behindInMarks op b=false):PT X (.Compare a [op] [b] pos) (j5 (tOp r ta tb)):=by
 intro pins s σ H Q I h
 refine wpAny_isTrue_Compare1 (thn (ha pins s σ H _ I h) fun v s1 ⟨x,H1,I1,r1,q1⟩=>thn (hb pins s1 σ H1 _ I1 q1) fun u s2 ⟨y,H2,I2,r2,q2⟩ =>
  thn (ho pins s2 σ H2 x y v u _ I2 r1 r2 q2) fun c s3 ⟨z,H3,I3,r3,k,e,q3⟩=>?_) hm
 subst e
 cases r3
 exact wpAny_truthy_bool ⟨H3,I3,q3⟩
noncomputable def js (r r':R2) (ta tb tc:TE):TE:=fun σ H Q=>ta σ H fun x H1=>tb σ H1 fun y H2=>r x y H2 fun z H3=>∃k,z=.bl k /\
 (if k=true then tc σ H3 fun w' H4=>r' y w' H4 Q else Q (.bl false) H3)
theorem nE {op op':CmpOp}{r r':R2} (ho:OpR X (compareOp op) r) (ho':OpR X (compareOp op') r') (ha:PE X a ta) (hb:PE X b tb) (hc:PE X c tc)
  (hm:lastMarks [op,op'] [b,c]=false:=by with_unfolding_all rfl):PE X (.Compare a [op,op'] [b,c] pos) (js r r' ta tb tc):=by
 intro pins s σ H Q I h
 refine Compare_chain (thn (ha pins s σ H _ I h) fun v s1 ⟨x,H1,I1,r1,q1⟩=>chain_link (thn (hb pins s1 σ H1 _ I1 q1) fun u s2 ⟨y,H2,I2,r2,q2⟩ =>
  thn (ho pins s2 σ H2 x y v u _ I2 r1 r2 q2) fun d s3 ⟨z,H3,I3,r3,k,e,q3⟩=>?_)) hm
 subst e
 cases r3
 refine wpAny_truthy_bool ?_
 cases k with
 | false=>exact ite_ff ⟨.bl false,H3,I3,rfl,q3⟩
 | true=>exact ite_tt (chain_last (thn (hc pins s3 σ H3 _ I3 q3) fun w' s4 ⟨z',H4,I4,r4,q4⟩=>ho' pins s4 σ H4 y z' u w' Q I4 r2 r4 q4))
theorem nt {op op':CmpOp}{r r':R2} (ho:OpR X (compareOp op) r) (ho':OpR X (compareOp op') r') (ha:PE X a ta) (hb:PE X b tb) (hc:PE X c tc)
  (hm:lastMarks [op,op'] [b,c]=false:=by with_unfolding_all rfl):PT X (.Compare a [op,op'] [b,c] pos) (j5 (js r r' ta tb tc)):=by
 intro pins s σ H Q I h
 refine isTrue_chain (thn (ha pins s σ H _ I h) fun v s1 ⟨x,H1,I1,r1,q1⟩=>test_link (thn (hb pins s1 σ H1 _ I1 q1) fun u s2 ⟨y,H2,I2,r2,q2⟩ =>
  thn (ho pins s2 σ H2 x y v u _ I2 r1 r2 q2) fun d s3 ⟨z,H3,I3,r3,k,e,q3⟩=>?_)) hm
 subst e
 cases r3
 refine wpAny_truthy_bool ?_
 cases k with
 | false =>
  obtain⟨k',e',q'⟩:=q3
  cases e'
  exact ite_ff ⟨H3,I3,q'⟩
 | true =>
  refine ite_tt (test_last (thn (hc pins s3 σ H3 _ I3 q3) fun w' s4 ⟨z',H4,I4,r4,q4⟩=>thn (ho' pins s4 σ H4 y z' u w' _ I4 r2 r4 q4) fun d' s5 ⟨z2,H5,I5,r5,k2,e2,q5⟩=>?_))
  subst e2
  cases r5
  exact wpAny_truthy_bool ⟨H5,I5,q5⟩
theorem cV:(sizeLine:Nat) < 2 ^ 63:=by rw [sizeLine_eq];decide
theorem lB:OpR X (binaryOp .Add) (fun x y H Q=>∃i j,x=.str i/\y=.str j/\i.length + j.length<=sizeLine/\Q (.str (i++j)) H):=by
 intro pins s σ H x y v u Q I rx ry h
 obtain⟨i,j,rfl,rfl,hz,q⟩:=h
 obtain⟨t,rfl⟩:=rx
 obtain⟨t',rfl⟩:=ry
 exact add_str (fun t' tk=>⟨.str (i++j),H,I.tok _,⟨_,rfl⟩,q⟩) hz
theorem vals1 {x:V}{us:List Value} (r:am [x] us):∃u,us=[u]/\RelV x u:=by
 cases r with
 | cons r1 r2=>cases r2;exact⟨_,rfl,r1⟩
theorem vals2 {x y:V}{us:List Value} (r:am [x,y] us):∃u w',us=[u,w']/\RelV x u/\RelV y w':=by
 cases r with
 | cons r1 r2 =>
  cases r2 with
  | cons r3 r4=>cases r4;exact⟨_,_,rfl,r1,r3⟩
theorem gU (hc:X.calm=true):bj X (.builtin "max") (fun xs H Q=>∃i j,xs=[.int i,.int j]/\Q (.int (if j > i then j else i)) H):=by
 intro pins s σ H xs us Q I r h
 obtain⟨i,j,rfl,q⟩:=h
 obtain⟨u,w',rfl,⟨t,rfl⟩,⟨t',rfl⟩⟩:=vals2 r
 refine max_two_ints (I.ok.hd hc) fun h' tk k=>⟨_,H,I.kept k,?_,q⟩
 by_cases hj:j > i
 ·rw [if_pos hj,if_pos hj];exact⟨_,rfl⟩
 ·rw [if_neg hj,if_neg hj];exact⟨_,rfl⟩
theorem gZ (hc:X.calm=true):bj X (.builtin "min") (fun xs H Q=>∃i j,xs=[.int i,.int j]/\Q (.int (if j < i then j else i)) H):=by
 intro pins s σ H xs us Q I r h
 obtain⟨i,j,rfl,q⟩:=h
 obtain⟨u,w',rfl,⟨t,rfl⟩,⟨t',rfl⟩⟩:=vals2 r
 refine min_two_ints (I.ok.hd hc) fun h' tk k=>⟨_,H,I.kept k,?_,q⟩
 by_cases hj:j < i
 ·rw [if_pos hj,if_pos hj];exact⟨_,rfl⟩
 ·rw [if_neg hj,if_neg hj];exact⟨_,rfl⟩
end
structure gm (h:Heap) (x dx C:Addr) (mA:Str->Option Value):Prop where
 obj:h.get? x=some (PySem.W.instObj C dx)
 ns:h.Ns1 dx mA
 ne:dx≠x
theorem mF {h:Heap}{dx:Addr}{mA:Str->Option Value} (n:h.Ns1 dx mA):∃od,h.get? dx=some od/\∀name,PySem.W.lookIn name od=some (mA name):=by
 obtain⟨o,es,ep,ho,hd,hk,_,hm⟩:=n
 refine⟨o,ho,fun name=>?_⟩
 have e:=hm name
 unfold nsFind findBy at e
 rw [<- Array.find?_toList] at e
 unfold PySem.W.lookIn
 rw [hd]
 dsimp only
 split
 ·rename_i y q
  rw [q] at e
  exact congrArg some e
 ·rename_i q
  rw [q] at e
  have a:es.toList.any (·.refKey)=false:=by
   rw [List.any_eq_false]
   intro y hy
   obtain⟨z,t,hkey⟩:=hk y (Array.mem_toList_iff.mp hy)
   simp [DictEntry.refKey,hkey]
  have a':¬ es.toList.any (·.refKey)=true:=by rw [a];exact Bool.false_ne_true
  rw [if_neg a']
  exact congrArg some e
theorem gm.look {h:Heap}{x dx C:Addr}{mA:Str->Option Value} (I:gm h x dx C mA):∃od,PySem.W.InstAt h x (PySem.W.instObj C dx) C (some od)/\∀name,PySem.W.lookIn name od=some (mA name) :=
 let ⟨od,ho,hl⟩:=mF I.ns
 ⟨od,⟨I.obj,rfl,rfl,ho⟩,hl⟩
section
variable {prog:Program}{w:World}{A:Around}{E:Value->Shared->Prop}{s:Shared}{K:PySem.W.Frag}{x dx C f:Addr}{mA:Str->Option Value}{name:Str}{v:Value}
end
theorem bE.some_of {v:V}{o:Option Value} (r:bE (some v) o):∃u,o=some u/\RelV v u:=by
 cases o with
 | none=>exact (show False from r).elim
 | some u=>exact⟨u,rfl,r⟩
section
variable {P:Program}{w:World}{H H':Hp}{h h':Heap}{a C dx:Addr}{fs fs':List (Str×V)}
theorem ox (hok:HOk P w H h) (e:H a=some (.ins C dx fs)):∃mA,gm h a dx C mA/\(∀f,bE (fs.lookup f) (mA f))/\PySem.Within mA (fs.map (·.1))/\fs.length<=1000/\H dx=some (.own a):=by
 obtain⟨d,z,ne,ob,mA,n,r,q⟩:=(show aC P w H h a (.ins C dx fs) from hok a _ e)
 exact⟨mA,⟨ob,n,ne⟩,r,q,z,d⟩
end
structure Cls (K:PySem.W.Frag) (C:Addr):Prop where
 pg:PySem.W.plainGet K C Str.empty=true
 hd:PySem.W.hasDictIn K C=true
 po:PySem.W.plainOver K C=true
 sa:PySem.W.findIn K (.ref C) "__setattr__"=some (some (.builtin "object.__setattr__"))
theorem Cls.get {K:PySem.W.Frag}{C:Addr} (c:Cls K C) (f:Str):PySem.W.plainGet K C f=true:=c.pg
structure Con (K:PySem.W.Frag) (C:Addr) (f:Str) (v:V) (u:Value):Prop where
 at_:PySem.W.findIn K (.ref C) f=some (some u)
 rel:RelV v u
 get:PySem.W.specialIn K u "__get__"=some none
 cp:PySem.W.copiedNames.contains f=false
structure su (K:PySem.W.Frag) (C:Addr) (m:Str) (f:Addr):Prop where
 at_:PySem.W.findIn K (.ref C) m=some (some (.ref f))
 fn:PySem.W.isFn K (.ref f)=true
 kp:PySem.W.keepIn K (.ref f)=true
section
variable {X:Cx}{pins:List (Addr×Obj)}{σ:St}{H:Hp}{s:Shared}{a C dx:Addr}{fs:List (Str×V)}{f:Str}{v:V}{A:Around}{E:Value->Shared->Prop}
end
section
variable {X:Cx}{o e value:Expr}{f:Str}{pos pos' tpos:Pos}{ta tv:TE}
end
section
variable {X:Cx}{pins:List (Addr×Obj)}{σ:St}{H:Hp}{s:Shared}{A:Around}{E:Value->Shared->Prop}{Q:Value->Shared->Prop}{c:Value}{b:Bool}
inductive bD (K:PySem.W.Frag) (H:Hp):V->Value->Prop where
 | non:bD K H .non (.type "NoneType")
 | bl (x:Bool):bD K H (.bl x) (.type "bool")
 | int (i:Int):bD K H (.int i) (.type "int")
 | str (x:Str):bD K H (.str x) (.type "str")
 | flt (x:UInt64):bD K H (.flt x) (.type "float")
 | lst {a:Addr}{xs:List V} (e:H a=some (.lst xs)):bD K H (.ref a) (.type "list")
 | frz {a:Addr}{o:Obj}{xs:List V} (e:H a=some (.frz o (.lst xs))):bD K H (.ref a) (.type "list")
 | tup {a:Addr}{xs:List V} (e:H a=some (.tup xs)):bD K H (.ref a) (.type "tuple")
 | dK {a:Addr}{kvs:List (Key×V)} (e:H a=some (.dK kvs)):bD K H (.ref a) (.type "dict")
 | dT {a:Addr}{kvs:List (List Key×V)} (e:H a=some (.dT kvs)):bD K H (.ref a) (.type "dict")
 | ins {a C dx:Addr}{fs:List (Str×V)} (e:H a=some (.ins C dx fs)) (cl:Cls K C) (ha:PySem.W.findIn K (.ref C) "__class__"=some (some (.builtin "object.__class__")))
   (hn:PySem.W.specialIn K (.builtin "object.__class__") "__get__"=some (some (.builtin "getset_descriptor.__get__"))) (htk:PySem.W.takesIn K (.builtin "object.__class__")=some true)
   (hm:PySem.W.mroIn K C (.type "object")=some true):bD K H (.ref a) (.ref C)
theorem lV {x:V}{u t:Value} (I:Inv X pins σ H s) (rx:RelV x u) (ty:bD X.K H x t) (e:PySem.W.kitOne X.K t c=some b) (h:∀tk,Q (.bool b) { s with toks:=tk }) :
  wpAny (model X.prog X.w) A (call (.builtin "isinstance") [u,c]) Q E s:=by
 cases ty with
 | non=>cases (show u=Value.none from rx);exact PySem.W.kia_one PySem.W.kitx_none I.kIn True.intro e (fun z=>nomatch z) h
 | bl y=>cases (show u=Value.bool y from rx);exact PySem.W.kia_one PySem.W.kitx_bool I.kIn True.intro e (fun z=>nomatch z) h
 | int i=>obtain⟨t,q⟩:=(show ∃t,u=Value.int i t from rx);cases q;exact PySem.W.kia_one PySem.W.kitx_int I.kIn True.intro e (fun z=>nomatch z) h
 | str y=>obtain⟨t,q⟩:=(show ∃t,u=Value.str y t from rx);cases q;exact PySem.W.kia_one PySem.W.kitx_str I.kIn True.intro e (fun z=>nomatch z) h
 | flt y=>obtain⟨t,q⟩:=(show ∃t,u=Value.float y t from rx);cases q;exact PySem.W.kia_one PySem.W.kitx_float I.kIn True.intro e (fun z=>nomatch z) h
 | @lst a xs ea =>
  cases (show u=Value.ref a from rx)
  obtain⟨_,_,n,_,h1⟩:=(show aC X.prog X.w H s.heap a (.lst xs) from I.hok a _ ea)
  exact PySem.W.kia_one PySem.W.kitx_list I.kIn ⟨_,h1,rfl⟩ e (fun z=>nomatch z) h
 | @frz a ob xs ea =>
  cases (show u=Value.ref a from rx)
  obtain⟨_,_,_,n,_,h1⟩:=(show aC X.prog X.w H s.heap a (.frz ob (.lst xs)) from I.hok a _ ea)
  exact PySem.W.kia_one PySem.W.kitx_list I.kIn ⟨_,h1,rfl⟩ e (fun z=>nomatch z) h
 | @tup a xs ea =>
  cases (show u=Value.ref a from rx)
  obtain⟨_,_,_,p⟩:=(show aC X.prog X.w H s.heap a (.tup xs) from I.hok a _ ea)
  obtain⟨o,h1,h2,_⟩:=p
  exact PySem.W.kia_one PySem.W.kitx_tuple I.kIn ⟨o,h1,h2⟩ e (fun z=>nomatch z) h
 | @dK a kvs ea =>
  cases (show u=Value.ref a from rx)
  obtain⟨_,_,vs,_,p⟩:=(show aC X.prog X.w H s.heap a (.dK kvs) from I.hok a _ ea)
  obtain⟨o,es,ep,h1,h2,_⟩:=p
  exact PySem.W.kia_one PySem.W.kitx_dict I.kIn ⟨o,h1,h2.1⟩ e (fun z=>nomatch z) h
 | @dT a kvs ea =>
  cases (show u=Value.ref a from rx)
  obtain⟨_,_,xs,_,o,es,ep,h1,h2,_⟩:=(show aC X.prog X.w H s.heap a (.dT kvs) from I.hok a _ ea)
  exact PySem.W.kia_one PySem.W.kitx_dict I.kIn ⟨o,h1,h2.1⟩ e (fun z=>nomatch z) h
 | @ins a C dx fs ea cl ha hn htk hm =>
  cases (show u=Value.ref a from rx)
  obtain⟨mA,O,_⟩:=ox I.hok ea
  obtain⟨od,J,_⟩:=O.look
  exact PySem.W.kia_one (PySem.W.kitx_own (cl.get _) cl.hd ha hn htk hm) I.kIn J e (fun z=>nomatch z) h
end
structure aK (k:Nat) (A:Around):Prop where
 hd:A.handled=none
 dp:A.depth + 3 * k + 5 < recursionLimit
 un:A.units + 16 * k + 200 < cLine
 gd:A.guards=some []
theorem aK.mono {j k:Nat}{A:Around} (r:aK k A) (h:j<=k):aK j A:=⟨r.hd,by have:=r.dp;omega,by have:=r.un;omega,r.gd⟩
theorem aK.deeper {k:Nat}{A:Around} (r:aK (k + 1) A) (env:Env):aK k (A.deeper env) :=
 ⟨r.hd,by have:=r.dp;show A.depth + 1 + 3 * k + 5 < _;omega,by have:=r.un;show A.units + 3 + 16 * k + 200 < _;omega,r.gd⟩
theorem aK.depth {k:Nat}{A:Around} (r:aK k A):A.depth < recursionLimit:=by have:=r.dp;omega
theorem aK.units {k:Nat}{A:Around} (r:aK k A):A.units + 64 < cLine:=by have:=r.un;omega
noncomputable def rg:TA:=fun _ H Q=>Q [] H
noncomputable def jX (ta:TE) (tr:TA):TA:=fun σ H Q=>ta σ H fun x H1=>tr σ H1 fun xs H2=>Q (x::xs) H2
section
variable {X:Cx}{e:Expr}{es:List Expr}{te:TE}{t:TA}{pos:Pos}
theorem ab:PA X [] rg:=fun _ _ _ _ H Q I h=>Calls.spliced_nil ⟨[],H,I,.nil,h⟩
theorem aa (ha:PE X e te) (hr:PA X es t) (hs:starEach (e::es) X.env=(false,eval e X.env)::starEach es X.env:=by rfl):PA X (e::es) (jX te t):=by
 intro pos pins s σ H Q I h
 rw [hs]
 show wpAny _ _ (spliced ((false,eval e X.env)::backTo pos (starEach es X.env))) _ _ s
 refine Calls.spliced_cons (thn (ha pins s σ H _ I h) fun u s1 ⟨x,H1,I1,r1,q1⟩=>?_)
 exact thn (hr pos pins s1 σ H1 _ I1 q1) fun us s2 ⟨xs,H2,I2,r2,q2⟩=>⟨x::xs,H2,I2,.cons r1 r2,q2⟩
noncomputable def rm (t:TA):TE:=fun σ H Q=>t σ H fun xs H1=>xs.length<=sizeLine/\∀p,H1 p=none->Q (.ref p) (upd H1 p (.tup xs))
noncomputable def rq (t:TA):TE:=fun σ H Q=>t σ H fun xs H1=>xs.length<=sizeLine/\∀p,H1 p=none->Q (.ref p) (upd H1 p (.lst xs))
theorem ce {x1} (h:PA X es t):PE X (.Tuple es x1 pos) (rm t):=by
 intro pins s σ H Q I hq
 refine wpAny_Tuple_spliced (thn (h pos pins s σ H _ I hq) fun us s1 ⟨xs,H1,I1,r,z,q⟩=>⟨by rw [<- r.length];exact z,?_⟩)
 have hf:H1 s1.heap.objs.size=none:=I1.hok.fresh (Nat.le_refl _)
 refine⟨.ref s1.heap.objs.size,upd H1 s1.heap.objs.size (.tup xs),I1.laid (t':=s1.toks) (fun b u e=>Heap.get?_push_of_some _ e) (Nat.le_refl _) ?_,rfl,q _ hf⟩
 exact⟨z,us,r,⟨_,Heap.get?_push_size _ rfl,rfl,_,rfl⟩⟩
theorem bV (h:PA X es t):PE X (.List es pos) (rq t):=by
 intro pins s σ H Q I hq
 refine wpAny_List_spliced (thn (h pos pins s σ H _ I hq) fun us s1 ⟨xs,H1,I1,r,z,q⟩=>⟨by rw [<- r.length];exact z,?_⟩)
 have hf:H1 s1.heap.objs.size=none:=I1.hok.fresh (Nat.le_refl _)
 refine⟨.ref s1.heap.objs.size,upd H1 s1.heap.objs.size (.lst xs),I1.laid (t':=s1.toks) (fun b u e=>Heap.get?_push_of_some _ e) (Nat.le_refl _) ?_,rfl,q _ hf⟩
 exact⟨z,us,0,r,Heap.get?_push_size _ rfl⟩
end
noncomputable abbrev Sp:=List V->Hp->VK->XK->Prop
noncomputable abbrev CXT:=List Env->Hp->Shared->XK->Value->Shared->Prop
structure fc (P:Program) (w:World) (K:PySem.W.Frag) (mg:Str->Option Value) (base:Heap) (A:Around) (outer:List Env) (s:Shared) (H:Hp):Prop where
 frames:A.frames=some outer
 mod:Mod K mg base
 bs:∀b o,base.get? b=some o->s.heap.get? b=some o/\H b=none
 bsz:base.objs.size<=s.heap.objs.size
 funs:s.heap.FunFrames base outer
 frf:∀b∈frs outer,H b=none
 hok:HOk P w H s.heap
 bare:AllBare s.gens
noncomputable def CE (outer:List Env) (P:Program) (w:World) (H:Hp) (s:Shared) (Q:VK) (u:Value) (s':Shared):Prop :=
 ∃v H',s'.os=s.os/\AllBare s'.gens/\Un (frs outer) [] H H' s.heap s'.heap/\HOk P w H' s'.heap/\RelV v u/\Q v H'
noncomputable def CR (CX:CXT) (outer:List Env) (P:Program) (w:World) (H:Hp) (s:Shared) (Q:VK) (E:XK) (r:Result) (s':Shared):Prop :=
 match r with
 | .ok (.ret u)=>CE outer P w H s Q u s'
 | .ok _=>False
 | .error e=>CX outer H s E e s'
structure aH (P:Program) (w:World) (K:PySem.W.Frag) (mg:Str->Option Value) (base:Heap) (CX:CXT) (k:Nat) (f:Addr) (fd:FuncData) (ps:List Str) (sp:Sp):Prop where
 len:∀vs H Q E,sp vs H Q E->vs.length=ps.length
 run:∀(A:Around) (outer:List Env) (s:Shared) (H:Hp) (args:Args) (us:List Value) (vs:List V) (Q:VK) (E:XK),aK k A->fc P w K mg base A outer s H->BindsTo s fd args (ps.zip us)->am vs us->sp vs H Q E ->
  codeAny (model P w) A (.call (.ref f) args) (CR CX outer P w H s Q E) s
section
variable {X:Cx}{pins:List (Addr×Obj)}{σ:St}{H:Hp}{s s':Shared}
theorem Inv.env0 (I:Inv X pins σ H s):fc X.prog X.w X.K X.mg X.base X.A X.stack s H :=
 ⟨I.ok.frames,I.ok.mod,I.bs,Nat.le_trans I.ok.bsz I.sz,I.stack,I.stkFree,I.hok,I.bare⟩
theorem Inv.after {Q:VK}{u:Value} (I:Inv X pins σ H s) (h:CE X.stack X.prog X.w H s Q u s'):EP X pins σ Q u s':=by
 obtain⟨v,H',os,bare,un,hok,r,q⟩:=h
 obtain⟨hh,g,d,t,os'⟩:=s'
 obtain rfl:os'=s.os:=os
 exact⟨v,H',I.call (h':=hh) (g':=g) (d':=d) (t':=t) (ch:=[]) un hok bare (fun b z=>absurd z (by simp)),r,q⟩
end
noncomputable def jO (sp:Sp) (dvs:List V) (E:XK) (t:TA):TE:=fun σ H Q=>t σ H fun vs H1=>sp (vs++dvs) H1 Q E
noncomputable def Binds (K:PySem.W.Frag) (fd:FuncData) (ps:List Str) (ds:List Value):Prop :=
 ∀(s:Shared) (us:List Value),K.In s.heap->(us++ds).length=ps.length->BindsTo s fd ⟨us,[]⟩ (ps.zip (us++ds))
theorem Binds.all {K:PySem.W.Frag}{fd:FuncData}{ps:List Str} (h:∀us:List Value,us.length=ps.length->bindArgs fd ⟨us,[]⟩=pure (ps.zip us)):Binds K fd ps []:=fun s us _ hl=>by
 rw [List.append_nil] at hl ⊢
 exact .of_eq (h us hl)
noncomputable def fM (CX:CXT) (X:Cx) (E:XK):Prop:=∀(pins:List (Addr×Obj)) (σ:St) (H:Hp) (s:Shared) (e:Value) (s':Shared),Inv X pins σ H s->CX X.stack H s E e s'->X.xe e s'
section
variable {X:Cx}{CX:CXT}{k:Nat}{f C:Addr}{fd:FuncData}{ps:List Str}{sp:Sp}{dvs:List V}{ds:List Value}{E:XK}{x m:Str}{p pos apos:Pos}{e o:Expr}{es:List Expr}{ta:TE}{t:TA}
theorem pV {pins:List (Addr×Obj)}{σ:St}{H:Hp}{s:Shared}{Q:VK}{us:List Value}{vs:List V} (F:aH X.prog X.w X.K X.mg X.base CX k f fd ps sp) (hr:aK k X.A) (hb:Binds X.K fd ps ds) (hd:am dvs ds) (hx:fM CX X E)
  (I:Inv X pins σ H s) (r:am vs us) (h:sp (vs++dvs) H Q E):wpAny (model X.prog X.w) X.A (call (.ref f) us) (EP X pins σ Q) X.xe s:=by
 have r2:am (vs++dvs) (us++ds):=r.append hd
 have hl:(us++ds).length=ps.length:=by rw [<- r2.length];exact F.len _ _ _ _ h
 refine wpAny_call (codeAny_mono (F.run X.A X.stack s H ⟨us,[]⟩ (us++ds) (vs++dvs) Q E hr I.env0 (hb s us I.kIn hl) r2 h) fun r s' hq=>?_)
 cases r with
 | error e=>exact hx pins σ H s e s' I hq
 | ok fl =>
  cases fl with
  | ret u=>exact I.after hq
  | next=>exact False.elim hq
  | brk=>exact False.elim hq
  | cont=>exact False.elim hq
theorem nT (F:aH X.prog X.w X.K X.mg X.base CX k f fd ps sp) (hr:aK k X.A) (hg:Gl X x) (hm:X.mg x=some (.ref f)) (hk:PySem.W.keepIn X.K (.ref f)=true) (hb:Binds X.K fd ps ds) (hd:am dvs ds) (hx:fM CX X E)
  (ha:PA X (e::es) t) (hdb:(x == ("__debug__":Str))=false:=by decide) (he:starEach (e::es) X.env=(false,eval e X.env)::starEach es X.env:=by rfl) (hpl:(backTo pos (starEach es X.env)).any (·.1)=false:=by rfl) :
  PE X (.Call (.Name x p) (e::es) [] pos) (jO sp dvs E t):=by
 intro pins s σ H Q I h
 refine wpAny_Call_Name_kw (iZ I hg hm ?_ hdb)
 refine PySem.W.callWith_K (h₀:=X.base) I.ok.mod.kin hk (thn (ha pos pins s σ H _ I h) fun us s1 ⟨vs,H1,I1,r,q⟩=>⟨I1.kIn,?_⟩) he hpl
 exact pV F hr hb hd hx I1 r q
structure Mk (K:PySem.W.Frag) (C f:Addr):Prop where
 makes:PySem.W.makesIn K C=true
 init:PySem.W.findIn K (.ref C) "__init__"=some (some (.ref f))
 fn:PySem.W.isFn K (.ref f)=true
 kp:PySem.W.keepIn K (.ref C)=true
end
section
variable {X:Cx}{CX:CXT}{k:Nat}{f C:Addr}{fd:FuncData}{ps ks:List Str}{sp:Sp}{E:XK}{x m:Str}{p pos apos kpos:Pos}{e o:Expr}{es:List Expr}{kws:List Keyword}{te ta:TE}{t tk:TA}{nm:Option Str}
structure sf (K:PySem.W.Frag) (fd:FuncData) (ps ks:List Str) (g:List Value->List Value->List Value) (gV:List V->List V->List V):Prop where
 to:∀(s:Shared) (us ws:List Value),K.In s.heap->(g us ws).length=ps.length->BindsTo s fd ⟨us,ks.zip ws⟩ (ps.zip (g us ws))
 rel:∀{vs:List V}{us:List Value}{zs:List V}{ws:List Value},am vs us->am zs ws->am (gV vs zs) (g us ws)
variable {g:List Value->List Value->List Value}{gV:List V->List V->List V}
end
structure aQ (N P:List Str) (sc:Scope):Prop where
 kind:sc.kind=.function
 co:sc.isCoroutine=false
 gen:sc.isGenerator=false
 nd:N.Nodup
 pre:N.take P.length=P
 par:∀x∈P,sc.names.lookup x=some .local\/sc.names.lookup x=some .cell
 nofree:∀y∈sc.names,y.2≠.free
theorem gX {kindOf:Str->Option NameKind}{x:Str}:∀{binds:List (Str×Value)}{m:Str->Option Value},(∀v,(x,v)∉binds)->bindL kindOf binds m x=m x
 | [],_,_=>rfl
 | (n,v)::r,m,h=>by
  unfold bindL
  rw [gX fun w hw=>h w (List.mem_cons_of_mem _ hw)]
  split
  ·have:x≠n:=by rintro rfl;exact h v List.mem_cons_self
   simp [this]
  ·rfl
theorem hV {kindOf:Str->Option NameKind}{x:Str}:∀{binds:List (Str×Value)}{m:Str->Option Value},(∀v,(x,v)∉binds)->bindC kindOf binds m x=m x
 | [],_,_=>rfl
 | (n,v)::r,m,h=>by
  unfold bindC
  rw [hV fun w hw=>h w (List.mem_cons_of_mem _ hw)]
  split
  ·rfl
  ·have:x≠n:=by rintro rfl;exact h v List.mem_cons_self
   simp [this]
theorem ia {kindOf:Str->Option NameKind}{x:Str}{v:Value}:∀{P:List Str}{vs:List Value}{i:Nat}{m:Str->Option Value},P.Nodup->P[i]?=some x->vs[i]?=some v->kindOf x=some .local ->
  bindL kindOf (P.zip vs) m x=some v
 | [],_,_,_,_,h,_,_=>by simp at h
 | _::_,[],_,_,_,_,h,_=>by simp at h
 | p::P,w::vs,0,m,nd,h1,h2,hk=>by
  simp at h1 h2;subst h1;subst h2
  show bindL kindOf ((p,w)::P.zip vs) m p=_
  unfold bindL
  rw [gX fun v hv=>(List.nodup_cons.mp nd).1 (List.of_mem_zip hv).1,if_pos hk]
  simp
 | p::P,w::vs,i + 1,m,nd,h1,h2,hk=>by
  show bindL kindOf ((p,w)::P.zip vs) m x=_
  unfold bindL
  exact ia (i:=i) (List.nodup_cons.mp nd).2 (by simpa using h1) (by simpa using h2) hk
theorem ik {kindOf:Str->Option NameKind}{x:Str}{v:Value}:∀{P:List Str}{vs:List Value}{i:Nat}{m:Str->Option Value},P.Nodup->P[i]?=some x->vs[i]?=some v->kindOf x≠some .local ->
  bindC kindOf (P.zip vs) m x=some v
 | [],_,_,_,_,h,_,_=>by simp at h
 | _::_,[],_,_,_,_,h,_=>by simp at h
 | p::P,w::vs,0,m,nd,h1,h2,hk=>by
  simp at h1 h2;subst h1;subst h2
  show bindC kindOf ((p,w)::P.zip vs) m p=_
  unfold bindC
  rw [hV fun v hv=>(List.nodup_cons.mp nd).1 (List.of_mem_zip hv).1,if_neg hk]
  simp
 | p::P,w::vs,i + 1,m,nd,h1,h2,hk=>by
  show bindC kindOf ((p,w)::P.zip vs) m x=_
  unfold bindC
  exact ik (i:=i) (List.nodup_cons.mp nd).2 (by simpa using h1) (by simpa using h2) hk
noncomputable def start (N:List Str) (vs:List V):St:=vs.map some++List.replicate (N.length - vs.length) none
noncomputable def dw (CX:CXT) (P:Program) (w:World) (K:PySem.W.Frag) (mg:Str->Option Value) (base:Heap) (N:List Str) (qual:Str) (scope:Scope) (f:Addr) (cd:Value) (A:Around) (outer:List Env) (s:Shared) (H:Hp) (E:XK):Cx where
 prog:=P
 w:=w
 K:=K
 mg:=mg
 base:=base
 A:=A.deeper (envOfC qual scope s.heap.objs.size f cd)
 N:=N
 s₀:=s
 H₀:=H
 env:=envOfC qual scope s.heap.objs.size f cd
 outer:=outer
 stack:=envOfC qual scope s.heap.objs.size f cd::outer
 ex:=[]
 calm:=true
 fn:=fun _=>true
 pn:=[]
 xe:=fun e s'=>wpAny (model P w) (A.deeper (envOfC qual scope s.heap.objs.size f cd)) (leaving (envOfC qual scope s.heap.objs.size f cd) e) (fun _ s''=>CX outer H s E e s'') (fun e' s''=>CX outer H s E e' s'') s'
theorem iD {sc:Scope}{n:Nat}{x:Str} (h:sc.names.lookup x=some .cell):∃c,(cellsFrom n sc.names []).lookup x=some c:=by
 have q:=PySem.W.cellsFrom_some sc.names n [] (.inl h)
 exact Option.isSome_iff_exists.mp q
theorem md {CX:CXT}{P:Program}{w:World}{K:PySem.W.Frag}{mg:Str->Option Value}{base:Heap}{N ps:List Str}{qual:Str}{scope:Scope}{f:Addr}{cd:Value}{A:Around}{outer:List Env}{s s1:Shared}{H:Hp}{E:XK}{us:List Value}{vs:List V}
  (S:aQ N ps scope) (hd:A.handled=none) (e0:fc P w K mg base A outer s H) (hl:vs.length=ps.length) (r:am vs us)
  (x:InCallC s s.heap.objs.size (bindL (envOfC qual scope s.heap.objs.size f cd).kindOf (ps.zip us) fun _=>none) (cellsFrom (s.heap.objs.size + 1) scope.names []) (bindC (envOfC qual scope s.heap.objs.size f cd).kindOf (ps.zip us) fun _=>none) s1) :
  Inv (dw CX P w K mg base N qual scope f cd A outer s H E) [] (start N vs) H s1:=by
 have hpl:ps.length<=N.length:=by have:=congrArg List.length S.pre;rw [List.length_take] at this;omega
 obtain⟨h1,tk,rfl,hk⟩:=x.done
 have noA:∀b:Addr,b∉(dw CX P w K mg base N qual scope f cd A outer s H E).ex:=fun b z=>absurd (show b∈([]:List Addr) from z) (by simp)
 refine⟨⟨e0.mod,S.kind,rfl,rfl,Nat.le_refl _,fun y z c h1 h2=>?_,fun y hy=>?_,fun y c _ h=>?_,fun _=>hd,Around.frames_deeper e0.frames,.inr ⟨rfl,rfl⟩,fun b z=>absurd z (noA b),e0.bs,e0.bsz,fun b _ _=>noA b,fun b z=>absurd z (noA b),e0.funs,e0.frf⟩,
  rfl,e0.bare,Un.kept hk,⟨_,x.toInCall.ns,fun i y v h1 h2 h3=>?_⟩,fun y c h=>⟨_,x.cell y c h⟩,e0.hok.fresh (Nat.le_refl _),fun y c h=>?_,fun p hp=>absurd (show p∈([]:List (Addr×Obj)) from hp) (by simp),e0.hok.kept hk,?_⟩
 ·exact name_of_addr x.apart (PySem.mem_of_lookup h1) (PySem.mem_of_lookup h2)
 ·have hy:scope.names.lookup y=some .cell\/scope.names.lookup y=some .free:=hy
  rcases hy with hy | hy
  ·exact iD hy
  ·exact absurd rfl (S.nofree _ (PySem.mem_of_lookup hy))
 ·exact Nat.le_of_lt (x.above y c (PySem.mem_of_lookup h))
 ·have hi:i < vs.length:=by
   unfold start at h2
   by_cases hi:i < vs.length
   ·exact hi
   ·rw [List.getElem?_append_right (by simpa using hi)] at h2
    rw [List.getElem?_replicate] at h2
    split at h2 <;> cases h2
  have ha:vs[i]?=some v:=by
   unfold start at h2
   rw [List.getElem?_append_left (by simpa using hi),List.getElem?_map] at h2
   cases e:vs[i]? with
   | none=>rw [e] at h2;cases h2
   | some a=>rw [e] at h2;cases h2;rfl
  obtain⟨u,hu,rv⟩:=r.get ha
  have hp:ps[i]?=some y:=by
   rw [<- S.pre,List.getElem?_take_of_lt (by omega)];exact h1
  have ndP:ps.Nodup:=by rw [<- S.pre];exact S.nd.sublist (List.take_sublist _ _)
  refine⟨u,rv,?_⟩
  rcases S.par y (List.mem_of_getElem? hp) with k | k
  ·exact .inl ⟨k,ia ndP hp hu k⟩
  ·obtain⟨c,e⟩:=iD (n:=s.heap.objs.size + 1) k
   refine .inr ⟨.inl k,c,e,?_⟩
   have q:=x.cell y c e
   rw [ik ndP hp hu (by show scope.names.lookup y≠_;rw [k];decide)] at q
   exact q
 ·exact e0.hok.fresh (Nat.le_of_lt (x.above y c (PySem.mem_of_lookup h)))
 ·unfold start
  show _=N.length
  rw [List.length_append,List.length_map,List.length_replicate]
  omega
theorem qO {CX:CXT}{P:Program}{w:World}{K:PySem.W.Frag}{mg:Str->Option Value}{base:Heap}{k:Nat}{f:Addr}{name qual:Str}{params:Arguments}{body:List Stmt}{scope:Scope}{dV kV doc pm cdv ct oc:Value}{an od:Option Addr}
  {osl:Array (Option Value)}{N ps:List Str}{sp:Sp} (lk:K.lookup f=some ⟨oc,od,.func (PySem.W.fnOf name qual params body scope dV kV doc pm an cdv ct),osl⟩) (hcd:PySem.W.codeIn K cdv qual=true) (S:aQ N ps scope)
  (len:∀vs H Q E,sp vs H Q E->vs.length=ps.length)
  (hbody:∀(A:Around) (outer:List Env) (s:Shared) (H:Hp) (vs:List V) (Q:VK) (E:XK),aK k (A.deeper (envOfC qual scope s.heap.objs.size f cdv))->sp vs H Q E ->
   ∃t,PSs (dw CX P w K mg base N qual scope f cdv A outer s H E) body t/\t { nx:=fun _ H'=>Q .non H',rt:=Q } (start N vs) H) :
  aH P w K mg base CX (k + 1) f (PySem.W.fnOf name qual params body scope dV kV doc pm an cdv ct) ps sp:=by
 refine⟨len,fun A outer s H args us vs Q E hr e0 hb r hsp=>?_⟩
 have hl:=len _ _ _ _ hsp
 have KX:K.In s.heap:=e0.mod.kin.keeps fun b o e=>(e0.bs b o e).1
 have lim:s.heap.NoLimit:=e0.mod.nolimit.keeps fun b o e=>(e0.bs b o e).1
 have hkind:∀y∈ps.zip us,scope.names.lookup y.1=some .local\/(scope.names.lookup y.1=some .cell/\((cellsFrom (s.heap.objs.size + 1) scope.names []).lookup y.1).isSome=true):=fun ⟨n,v⟩ hy=>by
  rcases S.par n (List.of_mem_zip hy).1 with q | q
  ·exact .inl q
  ·exact .inr ⟨q,PySem.W.cellsFrom_some _ _ _ (.inl q)⟩
 refine codeAny_call_function hr.depth (KX _ _ lk) rfl S.co S.gen rfl (PySem.W.codeRec_of KX hcd) (hb _ _ _ _ ?_)
 refine wpAny_newFunctionEnv_cells S.kind hkind fun env he s1 x=>?_
 subst he
 refine⟨lim.keeps x.toInCall.keep,codeAny_func ?_⟩
 obtain⟨t,ht,hq⟩:=hbody A outer s H vs Q E (hr.deeper _) hsp
 have I:Inv (dw CX P w K mg base N qual scope f cdv A outer s H E) [] (start N vs) H s1:=md S hr.hd e0 hl r x
 refine wpAny_mono (ht [] s1 (start N vs) H _ I hq) (fun fl s' hs=>?_) fun e s' hs=>hs
 have fin:∀{σ':St}{H':Hp}{v:V}{u:Value},Inv (dw CX P w K mg base N qual scope f cdv A outer s H E) [] σ' H' s'->RelV v u->Q v H'->CE outer P w H s Q u s' :=
  fun {σ' H' v u} J rv q=>⟨v,H',J.os,J.bare,J.base,J.hok,rv,q⟩
 cases fl with
 | ret u =>
  obtain⟨v,σ',H',J,rv,q⟩:=hs
  exact fin J rv q
 | next =>
  obtain⟨σ',H',J,q⟩:=hs
  exact fin (v:=V.non) (u:=Value.none) J rfl q
 | brk =>
  obtain⟨_,_,_,q⟩:=hs
  exact False.elim q
 | cont =>
  obtain⟨_,_,_,q⟩:=hs
  exact False.elim q
section
variable {X:Cx}{x:Str}{p pos:Pos}{e:Expr}{es:List Expr}{t:TA}{id T:String}{r:List V->Hp->VK->Prop}
noncomputable def tCB (r:List V->Hp->VK->Prop) (t:TA):TE:=fun σ H Q=>t σ H fun vs H1=>r vs H1 Q
theorem aw (hc:bj X (.builtin id) r) (hg:Gl X x) (hm:X.mg x=none) (hv:bootBuiltins x=some (.builtin id)) (ha:PA X (e::es) t) (hn:x≠"__name__":=by decide) (hdb:(x == ("__debug__":Str))=false:=by decide)
  (he:starEach (e::es) X.env=(false,eval e X.env)::starEach es X.env:=by rfl) (hpl:(backTo pos (starEach es X.env)).any (·.1)=false:=by rfl):PE X (.Call (.Name x p) (e::es) [] pos) (tCB r t):=by
 intro pins s σ H Q I h
 refine wpAny_Call_Name_kw (bO I hg hm hv ?_ hn hdb)
 exact PyProof.Rows.callWith_builtin1 (thn (ha pos pins s σ H _ I h) fun us s1 ⟨vs,H1,I1,r1,q1⟩=>hc pins s1 σ H1 vs us Q I1 r1 q1) he hpl
theorem bT (hc:bj X (.type T) r) (hg:Gl X x) (hm:X.mg x=none) (hv:bootBuiltins x=some (.type T)) (ha:PA X (e::es) t) (hn:x≠"__name__":=by decide) (hdb:(x == ("__debug__":Str))=false:=by decide)
  (he:starEach (e::es) X.env=(false,eval e X.env)::starEach es X.env:=by rfl) (hpl:(backTo pos (starEach es X.env)).any (·.1)=false:=by rfl):PE X (.Call (.Name x p) (e::es) [] pos) (tCB r t):=by
 intro pins s σ H Q I h
 refine wpAny_Call_Name_kw (bO I hg hm hv ?_ hn hdb)
 exact PyProof.Rows.callWith_type1 (thn (ha pos pins s σ H _ I h) fun us s1 ⟨vs,H1,I1,r1,q1⟩=>hc pins s1 σ H1 vs us Q I1 r1 q1) he hpl
end
end L2
namespace HT
open PySem PyProof.Rows
section
open PySem.SeqAt
open PySem.AutoSeq1 (wpAny_loadPart')
open PySem.MeetsSeq PySem.MeetsSeq2 PySem.MeetsSeq3
end
section
variable {prog:Program}{w:World}{A:Around}{E:Value->Shared->Prop}{s:Shared}
theorem rV {t b:Addr}{vs ws:List Value}{Q:Value->Shared->Prop} (ht:IsTup s.heap t vs.toArray) (hb:IsTup s.heap b ws.toArray) (hv:vs≠[])
  (h1:ws=[]->Q (.ref t) s) (h2:ws≠[]->Q (.ref s.heap.objs.size) { s with heap:=s.heap.push { cls:=.type "tuple",data:=.seq (vs++ws).toArray } })
  (hsz:vs.length + ws.length<=sizeLine):wpAny (model prog w) A (binaryOp .Add (.ref t) (.ref b)) Q E s:=by
 obtain⟨⟨cls,dd,data,sl⟩,ho,hc,n,hd⟩:=id ht
 obtain⟨⟨cls2,dd2,data2,sl2⟩,ho2,hc2,n2,hd2⟩:=id hb
 simp only at hc hd hc2 hd2
 subst hc hd hc2 hd2
 have e:vs.toArray++ws.toArray=(vs++ws).toArray:=by simp
 by_cases hw:ws=[]
 ·exact concat_meets ⟨_,ho,rfl⟩ ⟨_,ho2,rfl⟩ noFill_tuple_add seq_tuple_add PySem.F.slot_tuple_add PySem.F.entry_tuple_add (PySem.F.args_tuple_add_2 _ _)
   (tuple_addW1 t b vs.toArray ws.toArray n n2 dd dd2 sl sl2 (by simpa using hv) (by simp [hw])) ⟨ho,ho2,h1 hw⟩
 ·refine concat_meets ⟨_,ho,rfl⟩ ⟨_,ho2,rfl⟩ noFill_tuple_add seq_tuple_add PySem.F.slot_tuple_add PySem.F.entry_tuple_add (PySem.F.args_tuple_add_2 _ _)
   (tuple_addW2 t b vs.toArray ws.toArray n n2 dd dd2 sl sl2 (by simpa using hv) (by simpa using hw) (by rw [List.size_toArray,List.size_toArray];exact hsz)) ⟨ho,ho2,?_⟩
  rw [e]
  exact h2 hw
noncomputable def sIx (n d:Nat):Option Int->Nat
 | none=>d
 | some v=>if v < 0 then (v + (n:Int)).toNat else min v.toNat n
theorem rS (n d:Nat):sIx n d none=d:=rfl
theorem rX (n d k:Nat):sIx n d (some (k:Int))=min k n:=by
 show (if (k:Int) < 0 then ((k:Int) + (n:Int)).toNat else min (k:Int).toNat n)=min k n
 rw [if_neg (by omega),Int.toNat_natCast]
theorem pZ (n d:Nat) (hd:d<=n) (o:Option Int):sIx n d o<=n:=by
 cases o with
 | none=>exact hd
 | some v =>
  show (if v < 0 then (v + (n:Int)).toNat else min v.toNat n)<=n
  by_cases hv:v < 0
  ·rw [if_pos hv];omega
  ·rw [if_neg hv];exact Nat.min_le_right _ _
theorem iW (v:Int) (n d:Nat):(if v < 0 then max (v + (n:Int)) 0 else min v (n:Int))=((sIx n d (some v):Nat):Int):=by
 show (if v < 0 then max (v + (n:Int)) 0 else min v (n:Int))=(((if v < 0 then (v + (n:Int)).toNat else min v.toNat n):Nat):Int)
 by_cases hv:v < 0
 ·simp only [if_pos hv];omega
 ·simp only [if_neg hv];omega
theorem lK (lo hi:Option Int) (n:Nat):Builtin.Slice.sliceAdjust lo hi 1 (n:Int)=(((sIx n 0 lo:Nat):Int),((sIx n n hi:Nat):Int)):=by
 have h1:¬ ((1:Int) < 0):=by omega
 unfold Builtin.Slice.sliceAdjust
 simp only [h1,if_false]
 refine Prod.ext ?_ ?_
 ·cases lo with
  | none=>rfl
  | some v=>exact iW v n 0
 ·cases hi with
  | none=>rfl
  | some v=>exact iW v n n
theorem lA (i j:Nat):Builtin.Slice.slicePlaces (i:Int) (j:Int) 1=j - i:=by
 unfold Builtin.Slice.slicePlaces
 have h1:(1:Int) > 0:=by omega
 simp only [h1,if_true,Int.ediv_one]
 split <;> omega
theorem gN {v:Value}{o:Option Int}{Q:Option Int->Shared->Prop} (p:IsPart v o) (h:Q o s):wpAny (model prog w) A (Builtin.Slice.slicePartIndex v) Q E s:=by
 cases p with
 | none=>exact slicePart_none h
 | int i t=>exact slicePart_int h
theorem kM {sl:Addr}{vl vu:Value}{lo hi:Option Int}{n:Nat}{Q:Int×Int×Nat->Shared->Prop} (hs:s.heap.IsSliceOf sl vl vu .none) (pl:IsPart vl lo) (pu:IsPart vu hi)
  (h:Q (((sIx n 0 lo:Nat):Int),1,sIx n n hi - sIx n 0 lo) s):wpAny (model prog w) A (Builtin.Slice.sliceApplied (.ref sl) (pure (n:Int))) Q E s:=by
 obtain⟨os,hos,hcs,hds⟩:=id hs
 unfold Builtin.Slice.sliceApplied Builtin.Slice.sliceFields
 refine wpAny_bind (wpAny_bind (wpAny_field hos hds (x:=vl) rfl (wpAny_bind (wpAny_field hos hds (x:=vu) rfl (wpAny_bind (wpAny_field hos hds (x:=.none) rfl (wpAny_pure ?_)))))))
 refine wpAny_bind (slicePart_none ?_)
 show wpAny _ _ (if ((1:Int) == 0)=true then _ else _) _ _ s
 rw [if_neg (by decide)]
 refine wpAny_bind (gN pl (wpAny_bind (gN pu (wpAny_bind (wpAny_pure ?_)))))
 show wpAny _ _ (match Builtin.Slice.sliceAdjust lo hi 1 (n:Int) with | (lo,hi)=>pure (lo,(1:Int),Builtin.Slice.slicePlaces lo hi 1)) _ _ s
 rw [lK lo hi n]
 show wpAny _ _ (pure (((sIx n 0 lo:Nat):Int),(1:Int),Builtin.Slice.slicePlaces ((sIx n 0 lo:Nat):Int) ((sIx n n hi:Nat):Int) 1)) _ _ s
 rw [lA]
 exact wpAny_pure h
theorem mX (xs:Array Value) (i k:Nat):((List.range k).filterMap fun (m:Nat)=>xs[((i:Int) + (m:Int) * 1).toNat]?).toArray=((xs.toList.drop i).take k).toArray:=by
 have e:(fun (m:Nat)=>xs[((i:Int) + (m:Int) * 1).toNat]?)=fun m=>xs[i + m]?:=by
  funext m
  have:((i:Int) + (m:Int) * 1).toNat=i + m:=by omega
  rw [this]
 rw [e]
 have:=pick_run xs i k
 rw [List.filterMap_map] at this
 have e2:((fun x=>xs[x]?) ∘ fun x=>i + x)=fun m=>xs[i + m]?:=rfl
 rw [e2] at this
 rw [this]
theorem rQ {t sl:Addr}{items:Array Value}{vl vu:Value}{lo hi:Option Int}{Q:Value->Shared->Prop} (ht:IsTup s.heap t items) (hs:s.heap.IsSliceOf sl vl vu .none) (pl:IsPart vl lo) (pu:IsPart vu hi)
  (hw:¬ (sIx items.size 0 lo=0/\sIx items.size items.size hi=items.size))
  (h:Q (.ref s.heap.objs.size) { s with heap:=s.heap.push { cls:=.type "tuple",data:=.seq ((items.toList.drop (sIx items.size 0 lo)).take (sIx items.size items.size hi - sIx items.size 0 lo)).toArray } })
  (hsz:items.size<=sizeLine):wpAny (model prog w) A (getItem (.ref t) (.ref sl)) Q E s:=by
 have htake:sizeOk (.seq ((items.toList.drop (sIx items.size 0 lo)).take (sIx items.size items.size hi - sIx items.size 0 lo)).toArray):=by
  show ((items.toList.drop (sIx items.size 0 lo)).take (sIx items.size items.size hi - sIx items.size 0 lo)).toArray.size<=sizeLine
  rw [List.size_toArray,List.length_take,List.length_drop,Array.length_toList]
  omega
 have hj:sIx items.size items.size hi<=items.size:=pZ _ _ (Nat.le_refl _) hi
 obtain⟨os,hos,hcs,hds⟩:=id hs
 have hTs:s.TypeIs (.ref sl) "slice":=⟨os,hos,hcs⟩
 unfold getItem
 try with_reducible refine wpAny_holding ?_
 first | refine wpAny_bind (wpAny_pure ?_) | skip
 refine wpAny_bind (wpAny_sequenceKey ht.typeIs (by decide) ?_)
 refine wpAny_bind (wpAny_callSpecial?_slot (name:=Str.ofString "__getitem__") ht.typeIs PyProof.Rows.slot_tuple_getitem
  (wpAny_call_entry PyProof.Rows.slot_tuple_getitem ht.typeIs entry_tuple_getitem ?_ (args_tuple_getitem _ _)))
 show wpAny _ _ (Builtin.Tuple.tupleItemsOf (.ref t) >>= _) _ _ s
 refine wpAny_bind (tupleItemsOf_ ht ?_)
 refine wpAny_bind (wpAny_typeOf hTs ?_)
 rw [if_pos (by decide)]
 refine wpAny_bind (kM hs pl pu ?_)
 have hno:¬ ((((sIx items.size 0 lo:Nat):Int) == 0 && (1:Int) == 1 && (sIx items.size items.size hi - sIx items.size 0 lo) == items.size)=true):=by
  intro q
  rw [Bool.and_eq_true,Bool.and_eq_true] at q
  have q1:((sIx items.size 0 lo:Nat):Int)=0:=eq_of_beq q.1.1
  have q2:sIx items.size items.size hi - sIx items.size 0 lo=items.size:=eq_of_beq q.2
  exact hw ⟨by omega,by omega⟩
 show wpAny _ _ (if (((sIx items.size 0 lo:Nat):Int) == 0 && (1:Int) == 1 && (sIx items.size items.size hi - sIx items.size 0 lo) == items.size)=true then _ else _) _ _ s
 rw [if_neg hno,mX]
 first
  | exact wpAny_bind (m:=Builtin.Tuple.tupleExact _) (wpAny_newObj_type (wpAny_pure ⟨_,rfl,wpAny_pure h⟩) htake)
  | exact wpAny_bind (m:=Builtin.Tuple.tupleExact _) (wpAny_newObj_type (wpAny_bind (wpAny_pure (wpAny_pure ⟨_,rfl,wpAny_pure h⟩))) htake)
  | exact wpAny_bind (wpAny_bind (m:=Builtin.Tuple.tupleExact _) (wpAny_newObj_type (wpAny_pure (wpAny_pure ⟨_,rfl,wpAny_pure h⟩)) htake))
  | exact wpAny_bind (wpAny_bind (m:=Builtin.Tuple.tupleExact _) (wpAny_newObj_type (wpAny_pure ⟨_,rfl,wpAny_pure h⟩) htake))
end
end HT
namespace L2
open PySem PySem.Spec PyProof.Rows
noncomputable abbrev TO:=St->Hp->(Option Int->Hp->Prop)->Prop
noncomputable def PO (X:Cx) (e:Option Expr) (t:TO):Prop :=
 ∀(pins:List (Addr×Obj)) (s:Shared) (σ:St) (H:Hp) (Q:Option Int->Hp->Prop),Inv X pins σ H s->t σ H Q ->
  wpAny (model X.prog X.w) X.A (evalPart e X.env) (fun u s'=>∃o H',Inv X pins σ H' s'/\IsPart u o/\Q o H') X.xe s
noncomputable def oT:TO:=fun _ H Q=>Q none H
noncomputable def qM (t:TE):TO:=fun σ H Q=>t σ H fun x H1=>∃i,x=.int i/\Q (some i) H1
theorem intsAre_of {ns:List Int}:∀{us:List Value},am (ns.map V.int) us->IntsAre us ns:=by
 induction ns with
 | nil=>intro us r;rw [List.map_nil] at r;cases r;exact .nil
 | cons n ns ih =>
  intro us r
  rw [List.map_cons] at r
  cases r with
  | cons r1 r2 =>
   obtain⟨t,e⟩:=r1
   subst e
   exact .cons n t (ih r2)
section
variable {X:Cx}{e:Expr}{te:TE}{lo hi:Option Expr}{tl th:TO}{pos p2:Pos}
theorem cP:PO X none oT:=by
 intro pins s σ H Q I h
 rw [evalPart_none]
 exact wpAny_pure ⟨none,H,I,.none,h⟩
theorem cN (h:PE X e te):PO X (some e) (qM te):=by
 intro pins s σ H Q I hw
 rw [evalPart_some]
 refine thn (h pins s σ H _ I hw) fun u s1 ⟨x,H1,I1,r1,q1⟩=>?_
 obtain⟨i,rfl,q⟩:=q1
 obtain⟨t,rfl⟩:=r1
 exact⟨some i,H1,I1,.int i t,q⟩
noncomputable def SlR (X:Cx) (r:V->Option Int->Option Int->Hp->VK->Prop):Prop :=
 ∀(pins:List (Addr×Obj)) (s:Shared) (σ:St) (H:Hp) (x:V) (v vl vu:Value) (lo hi:Option Int) (sl:Addr) (Q:VK),Inv X pins σ H s->RelV x v->s.heap.IsSliceOf sl vl vu .none->IsPart vl lo->IsPart vu hi->r x lo hi H Q ->
  ∃T id,typeLookup (.type T) "__getitem__"=pure (some (.builtin id))/\s.TypeIs v T/\wpAny (model X.prog X.w) X.A (getItem v (.ref sl)) (EP X pins σ Q) X.xe s
noncomputable def tSl (r:V->Option Int->Option Int->Hp->VK->Prop) (te:TE) (tl th:TO):TE:=fun σ H Q=>te σ H fun x H1=>tl σ H1 fun l H2=>th σ H2 fun u H3=>r x l u H3 Q
theorem cL {r:V->Option Int->Option Int->Hp->VK->Prop} (hr:SlR X r) (he:PE X e te) (hl:PO X lo tl) (hu:PO X hi th):PE X (.Subscript e (.Slice lo hi none p2) pos) (tSl r te tl th):=by
 intro pins s σ H Q I h
 refine Subscript_ (thn (he pins s σ H _ I h) fun v s1 ⟨x,H1,I1,r1,q1⟩=>?_)
 refine wpAny_Slice (thn (hl pins s1 σ H1 _ I1 q1) fun vl s2 ⟨l,H2,I2,pl,q2⟩=>thn (hu pins s2 σ H2 _ I2 q2) fun vu s3 ⟨u,H3,I3,pu,q3⟩=>?_)
 rw [evalPart_none]
 refine wpAny_pure ?_
 have I4:Inv X pins σ H3 { s3 with heap:=s3.heap.push { cls:=.type "slice",data:=.fields #[vl,vu,.none] } }:=I3.kept (t':=s3.toks) fun b ob q=>Heap.get?_push_of_some _ q
 obtain⟨T,id,hT,ht,hg⟩:=hr pins { s3 with heap:=s3.heap.push { cls:=.type "slice",data:=.fields #[vl,vu,.none] } } σ H3 x v vl vu l u s3.heap.objs.size Q I4 r1 (Heap.IsSliceOf.new ..) pl pu q3
 show wpAny (model X.prog X.w) X.A (subscriptTail e (.Slice lo hi none p2) v (.ref s3.heap.objs.size)) (EP X pins σ Q) X.xe { s3 with heap:=s3.heap.push { cls:=.type "slice",data:=.fields #[vl,vu,.none] } }
 exact tail_any (ops:=[.ref s3.heap.objs.size,v]) ht hT hg (by with_unfolding_all rfl)
noncomputable def bw (xs:List V) (lo hi:Option Int):List V:=(xs.drop (HT.sIx xs.length 0 lo)).take (HT.sIx xs.length xs.length hi - HT.sIx xs.length 0 lo)
theorem gE (xs:List V) (lo hi:Option Int):(bw xs lo hi).length<=xs.length:=by
 unfold bw
 rw [List.length_take,List.length_drop]
 omega
noncomputable def qV (K:PySem.W.Frag):V->Option Int->Option Int->Hp->VK->Prop:=fun x lo hi H Q=>∃a xs,x=.ref a/\SqT K H a xs /\
 ¬ (HT.sIx xs.length 0 lo=0/\HT.sIx xs.length xs.length hi=xs.length)/\∀p,H p=none->Q (.ref p) (upd H p (.tup (bw xs lo hi)))
theorem pb:SlR X (qV X.K):=by
 intro pins s σ H x v vl vu lo hi sl Q I rx hs pl pu h
 obtain⟨a,xs,rfl,hx,hw,q⟩:=h
 cases rx
 obtain⟨its,r,ht,hz⟩:=I.tuple hx
 have hlen:its.toArray.size=xs.length:=by rw [List.size_toArray];exact r.length.symm
 refine⟨"tuple",_,PyProof.Rows.slot_tuple_getitem.lookup,ht.typeIs,?_⟩
 refine HT.rQ ht hs pl pu (by rw [hlen];exact hw) ?_ (by rw [hlen];exact hz)
 rw [hlen]
 refine⟨.ref s.heap.objs.size,_,I.laid (t':=s.toks) (o:=.tup (bw xs lo hi)) (fun b ob q=>Heap.get?_push_of_some _ q) (Nat.le_refl _) ?_,rfl,q _ (I.hok.fresh (Nat.le_refl _))⟩
 exact⟨Nat.le_trans (gE xs lo hi) hz,_,(r.drop (HT.sIx xs.length 0 lo)).take (HT.sIx xs.length xs.length hi - HT.sIx xs.length 0 lo),IsTup.new _ _⟩
noncomputable def qK (K:PySem.W.Frag):R2:=fun x y H Q=>∃a b xs ys,x=.ref a/\y=.ref b/\SqT K H a xs/\SqT K H b ys/\xs≠[]/\xs.length + ys.length<=sizeLine /\
 (ys=[]->Q (.ref a) H)/\(ys≠[]->∀p,H p=none->Q (.ref p) (upd H p (.tup (xs++ys))))
theorem am.nil_iff {xs:List V}{us:List Value} (r:am xs us):us=[] ↔ xs=[]:=by
 cases r with
 | nil=>simp
 | cons _ _=>simp
theorem oF:OpR X (binaryOp .Add) (qK X.K):=by
 intro pins s σ H x y v u Q I rx ry h
 obtain⟨a,b,xs,ys,rfl,rfl,ha,hb,hx,hz,q1,q2⟩:=h
 cases rx
 cases ry
 obtain⟨its,r1,p1,_⟩:=I.tuple ha
 obtain⟨its2,r2,p2,_⟩:=I.tuple hb
 refine HT.rV p1 p2 (fun z=>hx (r1.nil_iff.mp z)) (fun z=>⟨.ref a,H,I,rfl,q1 (r2.nil_iff.mp z)⟩) (fun z=>?_) (by rw [<- r1.length,<- r2.length];exact hz)
 refine⟨.ref s.heap.objs.size,_,I.laid (t':=s.toks) (o:=.tup (xs++ys)) (fun b ob q=>Heap.get?_push_of_some _ q) (Nat.le_refl _) ?_,rfl,q2 (fun w=>z (r2.nil_iff.mpr w)) _ (I.hok.fresh (Nat.le_refl _))⟩
 exact⟨by rw [List.length_append];exact hz,_,r1.append r2,IsTup.new _ _⟩
end
noncomputable def ixN (n:Nat) (i:Int):Option Nat:=if 0<=i then (if i < n then some i.toNat else none) else if -(n:Int)<=i then some (i + n).toNat else none
noncomputable def atI {α:Type} (xs:List α) (i:Int):Option α:=(ixN xs.length i).bind fun j=>xs[j]?
theorem ja {n:Nat}{i:Int}{j:Nat} (h:ixN n i=some j):seqIndex? i n=some j/\j < n/\-(n:Int)<=i/\i < n:=by
 unfold ixN at h
 by_cases h0:0<=i
 ·rw [if_pos h0] at h
  by_cases h1:i < n
  ·rw [if_pos h1] at h
   have e:i.toNat=j:=Option.some.inj h
   exact⟨by rw [seqIndex_of h0 h1,e],by omega,by omega,h1⟩
  ·rw [if_neg h1] at h;cases h
 ·rw [if_neg h0] at h
  by_cases h1:-(n:Int)<=i
  ·rw [if_pos h1] at h
   have e:(i + n).toNat=j:=Option.some.inj h
   exact⟨by rw [seqIndex_neg (by omega) h1,e],by omega,h1,by omega⟩
  ·rw [if_neg h1] at h;cases h
theorem fH {α:Type}{xs:List α}{i:Int}{v:α} (h:atI xs i=some v):∃j,seqIndex? i xs.length=some j/\xs[j]?=some v/\j < xs.length/\-(xs.length:Int)<=i/\i < xs.length:=by
 unfold atI at h
 cases e:ixN xs.length i with
 | none=>rw [e] at h;cases h
 | some j =>
  rw [e] at h
  obtain⟨h1,h2,h3,h4⟩:=ja e
  exact⟨j,h1,h,h2,h3,h4⟩
theorem oj {α:Type}{xs:List α}{j:Nat}{v:α} (h:xs[j]?=some v):atI xs (j:Int)=some v:=by
 have hj:j < xs.length:=(List.getElem?_eq_some_iff.mp h).1
 have e:ixN xs.length (j:Int)=some j:=by
  unfold ixN
  rw [if_pos (by omega),if_pos (by omega)];simp
 unfold atI;rw [e];exact h
noncomputable def nY (b:Expr):Prop:=∀o i,subscripted b false o i=operate [o,i] (getItem o i)
noncomputable def IxR (X:Cx) (r:R2):Prop :=
 ∀(value slice:Expr) (pins:List (Addr×Obj)) (s:Shared) (σ:St) (H:Hp) (x y:V) (v u:Value) (Q:VK),Inv X pins σ H s->RelV x v->RelV y u->r x y H Q ->
  subscripted slice false v u=operate [v,u] (getItem v u)->wpAny (model X.prog X.w) X.A (subscriptTail value slice v u) (EP X pins σ Q) X.xe s
noncomputable def MtR (X:Cx) (id:String) (r:V->List V->Hp->VK->Prop):Prop :=
 ∀(pins:List (Addr×Obj)) (s:Shared) (σ:St) (H:Hp) (x:V) (xs:List V) (v:Value) (us:List Value) (Q:VK),Inv X pins σ H s->RelV x v->am xs us->r x xs H Q ->
  wpAny (model X.prog X.w) X.A (call (.builtin id) (v::us)) (EP X pins σ Q) X.xe s
section
variable {X:Cx}{a b:Expr}{ta tb:TE}{pos:Pos}
theorem IxR.or {r r':R2} (h:IxR X r) (h':IxR X r'):IxR X (fun x y H Q=>r x y H Q\/r' x y H Q):=by
 intro value slice pins s σ H x y v u Q I rx ry q hs
 rcases q with q | q
 ·exact h value slice pins s σ H x y v u Q I rx ry q hs
 ·exact h' value slice pins s σ H x y v u Q I rx ry q hs
theorem ay {r:R2} (hr:IxR X r) (ha:PE X a ta) (hb:PE X b tb) (hs:nY b):PE X (.Subscript a b pos) (tOp r ta tb):=by
 intro pins s σ H Q I h
 exact Subscript_ (gu ha hb I h fun v u s2 x y H2 I2 rx ry q=>hr a b pins s2 σ H2 x y v u Q I2 rx ry q (hs _ _))
noncomputable def kB (K:PySem.W.Frag):R2:=fun x y H Q=>∃p xs i v,x=.ref p/\y=.int i/\SqL K H p xs/\atI xs i=some v/\Q v H
noncomputable def kC (K:PySem.W.Frag):R2:=fun x y H Q=>∃p xs i v,x=.ref p/\y=.int i/\SqT K H p xs/\atI xs i=some v/\Q v H
noncomputable def kE:R2:=fun x y H Q=>∃z i c,x=.str z/\y=.int i/\z.length<=sizeLine/\atI z.cps.toList i=some c/\Q (.str ⟨#[c]⟩) H
theorem oi:IxR X (kB X.K):=by
 intro value slice pins s σ H x y v u Q I rx ry h hs
 obtain⟨p,xs,i,z,rfl,rfl,hq,he,q⟩:=h
 cases rx
 obtain⟨t,rfl⟩:=ry
 obtain⟨its,r,pl,hz⟩:=I.list hq
 obtain⟨j,h1,h2,h3,h4,h5⟩:=fH he
 obtain⟨w,ew,rw'⟩:=r.get h2
 have hl:=r.length
 have hn:=cV
 have fin:EP X pins σ Q w s:=⟨z,H,I,rw',q⟩
 by_cases h0:0<=i
 ·have hj:i.toNat=j:=by
   rw [seqIndex_of h0 h5] at h1
   exact Option.some.inj h1
  exact item_listR pl.isList h0 (by omega) (by rw [hj];simpa using ew) fin hs
 ·have hj:(i + (its.toArray.size:Int)).toNat=j:=by
   rw [seqIndex_neg (by omega) h4] at h1
   rw [List.size_toArray,<- hl]
   exact Option.some.inj h1
  exact subscriptTail_builtinR (x:=w) pl.isList.typeIs slot_list_getitem.lookup
   (wpAny_getItem_list_neg (Q:=fun r s'=>r=w/\EP X pins σ Q r s') pl.isList (by omega) (by rw [List.size_toArray] <;> omega) (by omega) (by rw [hj];simpa using ew) ⟨rfl,fin⟩) hs
theorem pJ:IxR X (kC X.K):=by
 intro value slice pins s σ H x y v u Q I rx ry h hs
 obtain⟨p,xs,i,z,rfl,rfl,hq,he,q⟩:=h
 cases rx
 obtain⟨t,rfl⟩:=ry
 obtain⟨its,r,pl,hz⟩:=I.tuple hq
 obtain⟨j,h1,h2,h3,h4,h5⟩:=fH he
 obtain⟨w,ew,rw'⟩:=r.get h2
 have hl:=r.length
 have hn:=cV
 have fin:EP X pins σ Q w s:=⟨z,H,I,rw',q⟩
 exact subscriptTail_builtinR (x:=w) pl.typeIs slot_tuple_getitem.lookup
  (getItem_tuple (j:=j) (Q:=fun r s'=>r=w/\EP X pins σ Q r s') pl (by omega) (by omega) (by rw [List.size_toArray,<- hl];exact h1) (by simpa using ew) ⟨rfl,fin⟩) hs
theorem pR:IxR X kE:=by
 intro value slice pins s σ H x y v u Q I rx ry h hs
 obtain⟨z,i,c,rfl,rfl,hz,he,q⟩:=h
 obtain⟨t,rfl⟩:=rx
 obtain⟨t',rfl⟩:=ry
 obtain⟨j,h1,h2,h3,h4,h5⟩:=fH he
 have hl:z.cps.toList.length=z.length:=by simp [Str.length]
 rw [hl] at h1 h4 h5
 have hn:=cV
 exact tail_any (typeIs_str s z t) slot_str_getitem.lookup (getItem_str (c:=c) (by
  have e1:decide (i < -(2 ^ 63:Int))=false:=decide_eq_false (by omega)
  have e2:decide (i ≥ 2 ^ 63)=false:=decide_eq_false (by omega)
  rw [e1,e2,Bool.or_false]) (by rw [h1];simpa using h2) ⟨.str ⟨#[c]⟩,H,I.tok _,⟨_,rfl⟩,q⟩) hs
noncomputable def rIx (K:PySem.W.Frag):R2:=fun x y H Q=>kB K x y H Q\/kC K x y H Q\/kE x y H Q
theorem aG:IxR X (rIx X.K):=oi.or (pJ.or pR)
theorem lG (its:List Value) (n j:Nat) (u:Value):Obj.mapSeq (·.setIfInBounds j u) { cls:=.type "list",data:=.seq its.toArray n }={ cls:=.type "list",data:=.seq (its.set j u).toArray n }:=by
 simp [Obj.mapSeq]
theorem Inv.lst {pins:List (Addr×Obj)}{σ:St}{H:Hp}{s:Shared}{p:Addr}{xs:List V} (I:Inv X pins σ H s) (h:H p=some (.lst xs)) :
  ∃(its:List Value) (n:Nat),am xs its/\s.heap.get? p=some { cls:=.type "list",data:=.seq its.toArray n }/\xs.length<=sizeLine:=by
 obtain⟨z,its,n,r,e⟩:=I.hok p _ h
 exact⟨its,n,r,e,z⟩
theorem Inv.lstUpd {pins:List (Addr×Obj)}{σ:St}{H:Hp}{s:Shared}{p:Addr}{xs ys:List V}{its its':List Value}{n n':Nat}{f:Obj->Obj} (I:Inv X pins σ H s) (h:H p=some (.lst xs))
  (ho:s.heap.get? p=some { cls:=.type "list",data:=.seq its.toArray n }) (hf:f { cls:=.type "list",data:=.seq its.toArray n }={ cls:=.type "list",data:=.seq its'.toArray n' }) (r:am ys its') (hz:ys.length<=sizeLine) (t:Nat) :
  Inv X pins σ (upd H p (.lst ys)) { s with heap:=s.heap.update p f,toks:=t }:=by
 have e:(s.heap.update p f).get? p=some { cls:=.type "list",data:=.seq its'.toArray n' }:=by
  rw [Heap.get?_update_self f ho (by rw [hf] <;> rfl),hf]
 refine I.write (x:=p) (e:=p) (by rw [h];trivial) (.inl rfl) (fun b u hb q=>(Heap.get?_update_other _ _ (Ne.symm hb)).trans q) ⟨_,e⟩ ?_
 exact⟨hz,its',n',r,e⟩
noncomputable def qC:V->V->V->Hp->(Hp->Prop)->Prop:=fun o i v H Q=>∃p xs k j,o=.ref p/\i=.int k/\H p=some (.lst xs)/\ixN xs.length k=some j/\Q (upd H p (.lst (xs.set j v)))
theorem set_list:gj X qC:=by
 intro pins s σ H o i v ov iv u Q I ro ri rv h
 obtain⟨p,xs,k,j,rfl,rfl,hp,hj,q⟩:=h
 cases ro
 obtain⟨t,rfl⟩:=ri
 obtain⟨its,n,r,ho,hz⟩:=I.lst hp
 obtain⟨h1,h2,h3,h4⟩:=ja hj
 have hl:=r.length
 have hn:=cV
 have I':Inv X pins σ (upd H p (.lst (xs.set j v))) { s with heap:=s.heap.update p (Obj.mapSeq (·.setIfInBounds j u)) } :=
  I.lstUpd hp ho (lG its n j u) (r.set rv j) (by rw [List.length_set];exact hz) s.toks
 by_cases h0:0<=k
 ·have hk:k.toNat=j:=by
   rw [seqIndex_of h0 h4] at h1
   exact Option.some.inj h1
  exact PySem.W.ki_setAt ho h0 (by omega) (by rw [List.size_toArray,<- hl];exact h4) (by rw [hk];exact⟨_,I',q⟩)
 ·have hk:(k + (its.toArray.size:Int)).toNat=j:=by
   rw [seqIndex_neg (by omega) h3] at h1
   rw [List.size_toArray,<- hl]
   exact Option.some.inj h1
  exact PySem.W.ki_setBack ho (by omega) (by rw [List.size_toArray,<- hl];exact h3) (by omega) (by rw [hk];exact⟨_,I',q⟩)
theorem kU (lo hi:Option Int) (n:Nat):(sliceBounds lo hi none n).1=((HT.sIx n 0 lo:Nat):Int)/\(sliceBounds lo hi none n).2.1=((HT.sIx n n hi:Nat):Int)/\(sliceBounds lo hi none n).2.2=1:=by
 refine⟨?_,?_,rfl⟩
 ·cases lo with
  | none=>simp [sliceBounds,HT.sIx]
  | some i =>
   simp only [sliceBounds,HT.sIx,Option.getD_none,show (1:Int) > 0 by decide,if_true]
   by_cases h:i < 0
   ·simp only [h,if_true] <;> omega
   ·simp only [h,if_false] <;> omega
 ·cases hi with
  | none=>simp [sliceBounds,HT.sIx]
  | some i =>
   simp only [sliceBounds,HT.sIx,Option.getD_none,show (1:Int) > 0 by decide,if_true]
   by_cases h:i < 0
   ·simp only [h,if_true] <;> omega
   ·simp only [h,if_false] <;> omega
theorem kR (its:List Value) (lo hi:Option Int):slicePick its.toArray lo hi none=((its.drop (HT.sIx its.length 0 lo)).take (HT.sIx its.length its.length hi - HT.sIx its.length 0 lo)).toArray:=by
 obtain⟨h1,h2,h3⟩:=kU lo hi its.toArray.size
 unfold slicePick
 rw [h1,h2,h3]
 simp only [sliceRange_one,pick_run,List.size_toArray] <;> rfl
noncomputable def rF (K:PySem.W.Frag):V->Option Int->Option Int->Hp->VK->Prop:=fun x lo hi H Q=>∃a xs,x=.ref a/\SqL K H a xs/\∀p,H p=none->Q (.ref p) (upd H p (.lst (bw xs lo hi)))
theorem dM:SlR X (rF X.K):=by
 intro pins s σ H x v vl vu lo hi sl Q I rx hs pl pu h
 obtain⟨a,xs,rfl,hx,q⟩:=h
 cases rx
 obtain⟨its,r,ht,hz⟩:=I.list hx
 have hlen:=r.length
 refine⟨"list",_,slot_list_getitem.lookup,ht.isList.typeIs,?_⟩
 refine wpAny_getItem_list_slice ht.isList hs pl pu .none (by simp) ?_ (by rw [List.size_toArray] <;> omega)
 rw [kR,<- hlen]
 refine⟨.ref s.heap.objs.size,_,I.laid (t':=s.toks) (o:=.lst (bw xs lo hi)) (fun b ob q=>Heap.get?_push_of_some _ q) (Nat.le_refl _) ?_,rfl,q _ (I.hok.fresh (Nat.le_refl _))⟩
 exact⟨Nat.le_trans (gE xs lo hi) hz,_,0,(r.drop (HT.sIx xs.length 0 lo)).take (HT.sIx xs.length xs.length hi - HT.sIx xs.length 0 lo),Heap.get?_push_size _ rfl⟩
noncomputable def bL:V->Bool
 | .non=>true
 | .bl _=>true
 | .int _=>true
 | .str _=>true
 | _=>false
noncomputable def eqV:V->V->Bool
 | .non,.non=>true
 | .bl a,.bl b=>a == b
 | .bl a,.int b=>(if a then 1 else 0) == b
 | .int a,.bl b=>a == (if b then 1 else 0)
 | .int a,.int b=>a == b
 | .str a,.str b=>a == b
 | _,_=>false
theorem pw {A:Around}{s:Shared}{y x:V}{u v:Value} (ry:RelV y u) (rx:RelV x v) (fy:bL y=true) (fx:bL x=true):SeqAt.EqAt A s u v (eqV y x):=by
 cases y with
 | non =>
  cases ry
  cases x with
  | non=>cases rx;exact SeqAt.EqAt.same _
  | bl b=>cases rx;exact SeqAt.EqAt.none_bool b
  | int b=>obtain⟨t,rfl⟩:=rx;exact SeqAt.EqAt.none_int b t
  | str b=>obtain⟨t,rfl⟩:=rx;exact SeqAt.EqAt.none_str b t
  | _=>exact absurd (show false=true from fx) Bool.false_ne_true
 | bl a =>
  cases ry
  cases x with
  | non=>cases rx;exact SeqAt.EqAt.bool_none a
  | bl b=>cases rx;exact SeqAt.EqAt.bool_bool a b
  | int b=>obtain⟨t,rfl⟩:=rx;exact SeqAt.EqAt.bool_int a b t
  | str b=>obtain⟨t,rfl⟩:=rx;exact SeqAt.EqAt.bool_str a b t
  | _=>exact absurd (show false=true from fx) Bool.false_ne_true
 | int a =>
  obtain⟨t',rfl⟩:=ry
  cases x with
  | non=>cases rx;exact SeqAt.EqAt.int_none a t'
  | bl b=>cases rx;exact SeqAt.EqAt.int_bool a t' b
  | int b=>obtain⟨t,rfl⟩:=rx;exact SeqAt.EqAt.int_int a t' b t
  | str b=>obtain⟨t,rfl⟩:=rx;exact SeqAt.EqAt.int_str a t' b t
  | _=>exact absurd (show false=true from fx) Bool.false_ne_true
 | str a =>
  obtain⟨t',rfl⟩:=ry
  cases x with
  | non=>cases rx;exact SeqAt.EqAt.str_none a t'
  | bl b=>cases rx;exact SeqAt.EqAt.str_bool a t' b
  | int b=>obtain⟨t,rfl⟩:=rx;exact SeqAt.EqAt.str_int a t' b t
  | str b=>obtain⟨t,rfl⟩:=rx;exact SeqAt.EqAt.str_str a t' b t
  | _=>exact absurd (show false=true from fx) Bool.false_ne_true
 | _=>exact absurd (show false=true from fy) Bool.false_ne_true
noncomputable def eqU (x:V) (u:Value):Bool:=match u with
 | .none=>eqV .non x
 | .bool b=>eqV (.bl b) x
 | .int i _=>eqV (.int i) x
 | .str z _=>eqV (.str z) x
 | _=>false
theorem fR {x y:V}{u:Value} (r:RelV y u) (f:bL y=true):eqU x u=eqV y x:=by
 cases y with
 | non=>cases r;rfl
 | bl b=>cases r;rfl
 | int i=>obtain⟨t,rfl⟩:=r;rfl
 | str z=>obtain⟨t,rfl⟩:=r;rfl
 | _=>exact absurd (show false=true from f) Bool.false_ne_true
theorem dJ {x:V}:∀{xs:List V}{us:List Value},am xs us->xs.all bL=true->us.any (eqU x)=xs.any fun y=>eqV y x
 | _,_,.nil,_=>rfl
 | y::xs,u::us,.cons r t,f=>by
  rw [List.all_cons,Bool.and_eq_true] at f
  rw [List.any_cons,List.any_cons,fR r f.1,dJ t f.2]
theorem de {A:Around}{s:Shared}{x:V}{v:Value} (rx:RelV x v) (fx:bL x=true):∀{xs:List V}{us:List Value},am xs us->xs.all bL=true->∀u∈us,SeqAt.EqAt A s u v (eqU x u)
 | _,_,.nil,_=>fun u hu=>by cases hu
 | y::xs,u::us,.cons r t,f=>fun u' hu=>by
  rw [List.all_cons,Bool.and_eq_true] at f
  rcases List.mem_cons.mp hu with rfl | hu
  ·rw [fR r f.1];exact pw r rx f.1 fx
  ·exact de rx fx t f.2 u' hu
noncomputable def inV (x:V) (xs:List V):Bool:=xs.any fun y=>eqV y x
noncomputable def rIn (K:PySem.W.Frag) (neg:Bool):R2:=fun x y H Q=>∃p xs,y=.ref p/\(SqL K H p xs\/SqT K H p xs)/\bL x=true/\xs.all bL=true/\Q (.bl (if neg then !inV x xs else inV x xs)) H
theorem fq:OpR X (compareOp .In) (rIn X.K false):=by
 intro pins s σ H x y v u Q I rx ry h
 obtain⟨p,xs,rfl,hq,fx,fs,q⟩:=h
 cases ry
 rcases hq with hq | hq
 ·obtain⟨its,r,pl,hz⟩:=I.list hq
  refine SeqAt.in_listAt (eqU x) pl.isList (fun w hw=>de rx fx r fs w (by simpa using hw)) ⟨.bl _,H,I,rfl,?_⟩
  rw [show its.toArray.any (eqU x)=its.any (eqU x) by simp,dJ r fs]
  exact q
 ·obtain⟨its,r,pl,hz⟩:=I.tuple hq
  refine SeqAt.in_tupleAt (eqU x) pl (fun w hw=>de rx fx r fs w (by simpa using hw)) ⟨.bl _,H,I,rfl,?_⟩
  rw [show its.toArray.any (eqU x)=its.any (eqU x) by simp,dJ r fs]
  exact q
theorem gy:OpR X (compareOp .NotIn) (rIn X.K true):=by
 intro pins s σ H x y v u Q I rx ry h
 obtain⟨p,xs,rfl,hq,fx,fs,q⟩:=h
 cases ry
 rcases hq with hq | hq
 ·obtain⟨its,r,pl,hz⟩:=I.list hq
  refine SeqAt.notIn_listAt (eqU x) pl.isList (fun w hw=>de rx fx r fs w (by simpa using hw)) ⟨.bl _,H,I,rfl,?_⟩
  rw [show its.toArray.any (eqU x)=its.any (eqU x) by simp,dJ r fs]
  exact q
 ·obtain⟨its,r,pl,hz⟩:=I.tuple hq
  refine SeqAt.notIn_tupleAt (eqU x) pl (fun w hw=>de rx fx r fs w (by simpa using hw)) ⟨.bl _,H,I,rfl,?_⟩
  rw [show its.toArray.any (eqU x)=its.any (eqU x) by simp,dJ r fs]
  exact q
theorem bc:bj X (.builtin "len") (fun xs H Q=>∃p ys,xs=[.ref p]/\(SqL X.K H p ys\/SqT X.K H p ys)/\Q (.int ys.length) H):=by
 intro pins s σ H xs us Q I r h
 obtain⟨p,ys,rfl,hq,q⟩:=h
 obtain⟨u,rfl,rx⟩:=vals1 r
 cases rx
 have hn:=cV
 rcases hq with hq | hq
 ·obtain⟨its,r',pl,hz⟩:=I.list hq
  have hlen:=r'.length
  exact Calls.call_len_list pl.isList (by simp only [List.size_toArray] <;> omega) ⟨.int ys.length,H,I.tok _,⟨s.toks + 1,by rw [List.size_toArray,hlen]⟩,q⟩
 ·obtain⟨its,r',pl,hz⟩:=I.tuple hq
  have hlen:=r'.length
  exact len_tuple pl (by simp only [List.size_toArray] <;> omega) ⟨.int ys.length,H,I.tok _,⟨s.toks + 1,by rw [List.size_toArray,hlen]⟩,q⟩
theorem k7:bj X (.builtin "len") (fun xs H Q=>∃z,xs=[.str z]/\z.length<=sizeLine/\Q (.int z.length) H):=by
 intro pins s σ H xs us Q I r h
 obtain⟨z,rfl,hz,q⟩:=h
 obtain⟨u,rfl,t,rfl⟩:=vals1 r
 have hn:=cV
 exact len_str (by omega) ⟨.int z.length,H,I.tok _,⟨_,rfl⟩,q⟩
theorem kY:bj X (.type "list") (fun xs H Q=>∃p ys,xs=[.ref p]/\(SqL X.K H p ys\/SqT X.K H p ys)/\∀l,H l=none->Q (.ref l) (upd H l (.lst ys))):=by
 intro pins s σ H xs us Q I r h
 obtain⟨p,ys,rfl,hq,q⟩:=h
 obtain⟨u,rfl,rx⟩:=vals1 r
 cases rx
 have fin:∀(its:List Value),am ys its->ys.length<=sizeLine->∀(h':Heap) (c':Nat),(∀b o',s.heap.get? b=some o'->h'.get? b=some o') ->
   h'.get? s.heap.objs.size=some { cls:=.type "list",dict:=none,data:=.seq its.toArray c',slots:=#[] }->EP X pins σ Q (.ref s.heap.objs.size) { s with heap:=h' }:=fun its r' hz h' c' kp e =>
  ⟨.ref s.heap.objs.size,_,I.laid (t':=s.toks) kp (Nat.le_refl _) (show aC X.prog X.w _ h' _ (.lst ys) from ⟨hz,its,c',r',e⟩),rfl,q _ (I.hok.fresh (Nat.le_refl _))⟩
 rcases hq with hq | hq
 ·obtain⟨its,r',pl,hz⟩:=I.list hq
  have hlen:=r'.length
  obtain⟨o,ho,hc,n,hd⟩:=pl.isList
  exact call_list_seq p (.inl rfl) ho hc hd (fun h' c' kp e=>fin its r' hz h' c' kp e) (by simp only [List.size_toArray] <;> omega)
 ·obtain⟨its,r',pl,hz⟩:=I.tuple hq
  have hlen:=r'.length
  obtain⟨o,ho,hc,n,hd⟩:=pl
  exact call_list_seq p (.inr rfl) ho hc hd (fun h' c' kp e=>fin its r' hz h' c' kp e) (by simp only [List.size_toArray] <;> omega)
theorem cJ:bj X (.type "tuple") (fun xs H Q=>∃p ys,xs=[.ref p]/\((SqL X.K H p ys/\∀l,H l=none->Q (.ref l) (upd H l (.tup ys)))\/(SqT X.K H p ys/\Q (.ref p) H))):=by
 intro pins s σ H xs us Q I r h
 obtain⟨p,ys,rfl,h⟩:=h
 obtain⟨u,rfl,rx⟩:=vals1 r
 cases rx
 rcases h with ⟨hq,q⟩ | ⟨hq,q⟩
 ·obtain⟨its,r',pl,hz⟩:=I.list hq
  have hlen:=r'.length
  refine call_tuple_list pl.isList (fun h' kp=>?_) (by simp only [List.size_toArray] <;> omega)
  have I1:Inv X pins σ H { s with heap:=h' }:=I.kept (t':=s.toks) kp
  have I2:Inv X pins σ (upd H h'.objs.size (.tup ys)) { s with heap:=h'.push { cls:=.type "tuple",data:=.seq its.toArray } } :=
   I1.laid (t':=s.toks) (fun b o e=>Heap.get?_push_of_some _ e) (Nat.le_refl _) (show aC X.prog X.w _ _ _ (.tup ys) from ⟨hz,its,r',IsTup.new _ _⟩)
  exact⟨.ref h'.objs.size,_,I2,rfl,q _ (I1.hok.fresh (Nat.le_refl _))⟩
 ·obtain⟨its,r',pl,hz⟩:=I.tuple hq
  exact call_tuple_same pl ⟨.ref p,H,I,rfl,q⟩
noncomputable def tyV (K:PySem.W.Frag) (T:String) (x:V) (H:Hp):Prop:=match x with
 | .str _=>T="str"
 | .int _=>T="int"
 | .ref p=>(T="list"/\∃xs,SqL K H p xs)\/(T="tuple"/\∃o,K.lookup p=some o/\o.cls=.type "tuple"/\o.dict=none) \/
   (T="dict"/\((∃kvs,H p=some (.dK kvs))\/∃kvs,H p=some (.dT kvs)))\/(T="set"/\∃S n,H p=some (.set S n))
 | _=>False
theorem oY {pins:List (Addr×Obj)}{σ:St}{H:Hp}{s:Shared}{T:String}{x:V}{v:Value} (I:Inv X pins σ H s) (r:RelV x v) (ty:tyV X.K T x H) :
  s.TypeIs v T/\∀a,v=.ref a->∃ob,s.heap.get? a=some ob/\ob.dict=none:=by
 cases x with
 | str z =>
  obtain⟨t,rfl⟩:=r
  cases (show T="str" from ty)
  exact⟨typeIs_str s z t,fun _ e=>nomatch e⟩
 | int i =>
  obtain⟨t,rfl⟩:=r
  cases (show T="int" from ty)
  exact⟨typeIs_int s i t,fun _ e=>nomatch e⟩
 | ref p =>
  cases r
  rcases ty with ⟨rfl,xs,hq⟩ | ⟨rfl,o,hk,hc,hd⟩ | ⟨rfl,hk⟩ | ⟨rfl,S,n,hk⟩
  ·obtain⟨its,_,pl,_⟩:=I.list hq
   refine⟨pl.isList.typeIs,fun a e=>?_⟩
   cases e
   obtain⟨o,n,e,c,hd,_⟩:=pl
   exact⟨o,e,hd⟩
  ·refine⟨⟨o,I.kIn p o hk,hc⟩,fun a e=>?_⟩
   cases e
   exact⟨o,I.kIn _ o hk,hd⟩
  ·have z:∃o,s.heap.get? p=some o/\o.ExactDict:=by
    rcases hk with ⟨kvs,hk⟩ | ⟨kvs,hk⟩
    ·obtain⟨_,_,_,_,o,_,_,e,ex,_⟩:=I.hok p _ hk
     exact⟨o,e,ex⟩
    ·obtain⟨_,_,_,_,o,_,_,e,ex,_⟩:=I.hok p _ hk
     exact⟨o,e,ex⟩
   obtain⟨o,e,ex⟩:=z
   refine⟨⟨o,e,ex.1⟩,fun a e2=>?_⟩
   cases e2
   exact⟨o,e,ex.2.1⟩
  ·obtain⟨o,_,_,_,e,ex,_⟩:=I.hok p _ hk
   refine⟨⟨o,e,ex.1⟩,fun a e2=>?_⟩
   cases e2
   exact⟨o,e,ex.2.1⟩
 | _=>exact False.elim ty
noncomputable def tBM (K:PySem.W.Frag) (T:String) (r:V->List V->Hp->VK->Prop) (to:TE) (t:TA):TE:=fun σ H Q=>to σ H fun x H1=>tyV K T x H1/\t σ H1 fun xs H2=>r x xs H2 Q
variable {o e:Expr}{es:List Expr}{to:TE}{t:TA}{name:Str}{apos cpos:Pos}{T id:String}{r:V->List V->Hp->VK->Prop}
theorem bX (pa:PlainAttrs T) (slot:Slot T name id) (hty:typeOf (.builtin id)=pure (.type "method_descriptor")) (hm:MtR X id r) (ho:PE X o to) (ha:PA X (e::es) t)
  (hbase:attributeBase o name X.env (eval o X.env)=eval o X.env:=by rfl)
  (hfew:((backTo cpos (starEach (e::es) X.env)).all (fun x=>!x.1) && (backToKw cpos (keywordEach [] X.env)).all (fun x=>x.1.isSome)
   && decide ((e::es).length + ([]:List Keyword).length + (if ([]:List Keyword).isEmpty then 0 else 1) < 30))=true:=by rfl)
  (hline:(apos.endLine == cpos.line)=true:=by rfl) (hs:starEach (e::es) X.env=(false,eval e X.env)::starEach es X.env:=by rfl) (hplain:(backTo cpos (starEach es X.env)).any (·.1)=false:=by rfl) :
  PE X (.Call (.Attribute o name apos) (e::es) [] cpos) (tBM X.K T r to t):=by
 intro pins s σ H Q I h
 refine wpAny_Call_method_late hbase hfew hline rfl (thn (ho pins s σ H _ I h) fun v s1 ⟨x,H1,I1,r1,ty,q1⟩=>?_)
 obtain⟨h1,h2⟩:=oY I1 r1 ty
 refine⟨T,id,pa,slot,hty,h1,h2,?_⟩
 have hA:=ha cpos pins s1 σ H1 _ I1 q1
 rw [hs] at hA ⊢
 refine Calls.callWith_builtin (by show (false || (backTo cpos (starEach es X.env)).any (·.1))=false;rw [hplain] <;> rfl) (Calls.evalArgs_plain ?_)
 exact thn hA fun us s2 ⟨vs,H2,I2,r2,q2⟩=>hm pins s2 σ H2 x vs v us Q I2 r1 r2 q2
/- xs.append(e),list.index on a module's tuple .. are MtR facts of 06m -/
end
noncomputable def MtM (X:Cx) (id:String) (r:V->List V->Hp->VK->Prop):Prop :=
 ∀(pins:List (Addr×Obj)) (s:Shared) (σ:St) (H:Hp) (x:V) (xs:List V) (v:Value) (us:List Value) (Q:VK),Inv X pins σ H s->RelV x v->am xs us->r x xs H Q ->
  wpAny (model X.prog X.w) X.A (call (.builtin id) (v::us)) (EP X pins σ Q) X.xe s
theorem am.one:∀{x:V}{us:List Value},am [x] us->∃u,us=[u]/\RelV x u
 | _,_,.cons r .nil=>⟨_,rfl,r⟩
theorem am.eraseIdx:∀{xs:List V}{us:List Value} (i:Nat),am xs us->am (xs.eraseIdx i) (us.eraseIdx i)
 | _,_,_,.nil=>.nil
 | _,_,0,.cons _ t=>t
 | _,_,i + 1,.cons r t=>.cons r (am.eraseIdx i t)
theorem am.rep {xs:List V}{us:List Value} (h:am xs us):∀k:Nat,am (List.replicate k xs).flatten (List.replicate k us).flatten
 | 0=>.nil
 | k + 1=>by
  rw [List.replicate_succ,List.replicate_succ,List.flatten_cons,List.flatten_cons]
  exact am.append h (am.rep h k)
theorem ig {α:Type}:∀(l:List α) (i:Nat),(l.eraseIdx i).length<=l.length
 | [],_=>Nat.le_refl _
 | _::_,0=>Nat.le_succ _
 | _::r,i + 1=>Nat.succ_le_succ (ig r i)
theorem foldl_rep (its:List Value):∀(k:Nat) (acc:List Value),
  List.foldl (fun x1 x2=>x1++x2) acc.toArray (List.replicate k its.toArray)=(acc++(List.replicate k its).flatten).toArray
 | 0,acc=>by simp
 | k + 1,acc=>by
  have e:acc.toArray++its.toArray=(acc++its).toArray:=by simp
  have e2:(acc++its)++(List.replicate k its).flatten=acc++(List.replicate (k + 1) its).flatten:=by
   rw [List.replicate_succ,List.flatten_cons,List.append_assoc]
  rw [<- e2,<- foldl_rep its k (acc++its),<- e,List.replicate_succ,List.foldl_cons]
section
variable {X:Cx}{pins:List (Addr×Obj)}{σ:St}{H:Hp}{s:Shared}{l b:Addr}{xs ys zs:List V}
theorem Inv.lset {its its':List Value}{n:Nat}{f:Array Value->Array Value}{t':Nat} (I:Inv X pins σ H s) (hH:H l=some (.lst xs))
  (e:s.heap.get? l=some { cls:=.type "list",data:=.seq its.toArray n }) (hf:f its.toArray=its'.toArray) (hv:am ys its') (hz:ys.length<=sizeLine) :
  Inv X pins σ (upd H l (.lst ys)) { s with heap:=s.heap.update l (Obj.mapSeq f),toks:=t' }:=by
 have q:=PySem.IsL.update e f
 rw [hf] at q
 refine I.write (x:=l) (e:=l) (by rw [hH];exact trivial) (.inl rfl) (fun b' u hb hu=>(Heap.get?_update_other s.heap (Obj.mapSeq f) (Ne.symm hb)).trans hu) ⟨_,q⟩ ?_
 exact⟨hz,its',_,hv,q⟩
theorem Inv.lnew {its:List Value}{t':Nat} (I:Inv X pins σ H s) (hv:am ys its) (hz:ys.length<=sizeLine) :
  Inv X pins σ (upd H s.heap.objs.size (.lst ys)) { s with heap:=s.heap.push { cls:=.type "list",data:=.seq its.toArray },toks:=t' } :=
 I.laid (fun _ _ q=>Heap.get?_push_of_some _ q) (Nat.le_refl _) ⟨hz,its,0,hv,Heap.get?_push_size _ rfl⟩
theorem Inv.fresh (I:Inv X pins σ H s):H s.heap.objs.size=none:=I.hok.fresh (Nat.le_refl _)
theorem Inv.lstM (I:Inv X pins σ H s) (hH:H l=some (.lst xs)):xs.length<=sizeLine/\∃(its:List Value) (n:Nat),am xs its/\xs.length=its.length/\s.heap.get? l=some { cls:=.type "list",data:=.seq its.toArray n }:=by
 obtain⟨z,its,n,r,e⟩:=I.hok l _ hH
 exact⟨z,its,n,r,r.length,e⟩
theorem mW {n:Nat} (h:n<=sizeLine):Builtin.List.listTooLong n=false:=by
 unfold Builtin.List.listTooLong
 exact decide_eq_false (by omega)
end
section
variable {X:Cx}
noncomputable def oU:V->List V->Hp->VK->Prop:=fun x vs H Q=>∃l xs y,x=.ref l/\vs=[y]/\H l=some (.lst xs)/\xs.length < sizeLine/\Q .non (upd H l (.lst (xs++[y])))
theorem dE:MtM X "list.append" oU:=by
 intro pins s σ H x vs v us Q I rx rv h
 obtain⟨l,xs,y,rfl,rfl,hH,hz,q⟩:=h
 cases rx
 obtain⟨u,rfl,ru⟩:=rv.one
 obtain⟨z,its,n,r,hl,e⟩:=I.lstM hH
 refine call_meets F.slot_list_append ⟨_,e,rfl⟩ F.entry_list_append (F.args_list_append_2 _ _) (PySem.list_append l its.toArray n u (by rw [List.size_toArray];omega)) ⟨e,?_⟩
 refine⟨.non,_,I.lset (its':=its++[u]) hH e (by simp) (r.append (.cons ru .nil)) ?_,rfl,q⟩
 rw [List.length_append,List.length_singleton]
 omega
noncomputable def pf:V->List V->Hp->VK->Prop:=fun x vs H Q=>∃l xs i k y,x=.ref l/\vs=[.int i]/\H l=some (.lst xs)/\-(2 ^ 63)<=i/\i < 2 ^ 63/\seqIndex? i xs.length=some k/\xs[k]?=some y/\Q y (upd H l (.lst (xs.eraseIdx k)))
theorem mZ:MtM X "list.pop" pf:=by
 intro pins s σ H x vs v us Q I rx rv h
 obtain⟨l,xs,i,k,y,rfl,rfl,hH,h1,h2,hk,hy,q⟩:=h
 cases rx
 obtain⟨u,rfl,ru⟩:=rv.one
 obtain⟨t,rfl⟩:=ru
 obtain⟨z,its,n,r,hl,e⟩:=I.lstM hH
 obtain⟨w,hw,rw'⟩:=r.get hy
 refine call_meets F.slot_list_pop ⟨_,e,rfl⟩ F.entry_list_pop (F.args_list_pop_2 _ _)
  (MeetsSeq.list_pop_at l its.toArray n i t k w (fitsIndex_both h1 h2) (by rw [List.size_toArray,<- hl];exact hk) (by rw [<- Array.getElem?_toList];exact hw) (by rw [List.size_toArray];omega)) ⟨e,?_⟩
 refine⟨y,_,I.lset (its':=its.eraseIdx k) hH e ?_ (r.eraseIdx k) ?_,rw',q⟩
 ·show its.toArray.eraseIdxIfInBounds k=(its.eraseIdx k).toArray
  rw [List.eraseIdxIfInBounds_toArray]
 ·have:=ig xs k
  omega
noncomputable def rM:R2:=fun x y H Q=>∃l b xs zs,x=.ref l/\y=.ref b/\H l=some (.lst xs)/\H b=some (.lst zs)/\xs.length + zs.length<=sizeLine/\∀p,H p=none->Q (.ref p) (upd H p (.lst (xs++zs)))
theorem jN:OpR X (binaryOp .Add) rM:=by
 intro pins s σ H x y v u Q I rx ry h
 obtain⟨l,b,xs,zs,rfl,rfl,hH,hB,hz,q⟩:=h
 cases rx
 cases ry
 obtain⟨z,its,n,r,hl,e⟩:=I.lstM hH
 obtain⟨z2,its2,n2,r2,hl2,e2⟩:=I.lstM hB
 refine PySem.P.add_list e e2 ?_ (by rw [List.size_toArray,List.size_toArray];omega)
 have ea:its.toArray++its2.toArray=(its++its2).toArray:=by simp
 rw [ea]
 exact⟨.ref _,_,I.lnew (t':=s.toks) (r.append r2) (by rw [List.length_append];omega),rfl,q _ I.fresh⟩
noncomputable def rK:R2:=fun x y H Q=>∃l k xs,x=.ref l/\y=.int k/\H l=some (.lst xs)/\-(2 ^ 63)<=k/\k < 2 ^ 63/\xs.length * k.toNat<=sizeLine /\
 ∀p,H p=none->Q (.ref p) (upd H p (.lst (List.replicate k.toNat xs).flatten))
theorem len_rep {α:Type} (xs:List α) (k:Nat):(List.replicate k xs).flatten.length=k * xs.length:=by
 induction k with
 | zero=>simp
 | succ k ih=>rw [List.replicate_succ,List.flatten_cons,List.length_append,ih,Nat.succ_mul,Nat.add_comm]
theorem jH:OpR X (binaryOp .Mult) rK:=by
 intro pins s σ H x y v u Q I rx ry h
 obtain⟨l,k,xs,rfl,rfl,hH,h1,h2,hz,q⟩:=h
 cases rx
 obtain⟨t,rfl⟩:=ry
 obtain⟨z,its,n,r,hl,e⟩:=I.lstM hH
 have hlen:its.toArray.size * k.toNat<=sizeLine:=by rw [List.size_toArray,<- hl];exact hz
 have hcap:¬ its.toArray.size * k.toNat > (2 ^ 63 - 1) / 8:=by
  have:(sizeLine:Nat)<=(2 ^ 63 - 1) / 8:=by decide
  omega
 have hfit:¬ (!Builtin.List.listFitsIndex k)=true:=by
  rw [fitsIndex_both h1 h2]
  exact Bool.false_ne_true
 have hlong:¬ Builtin.List.listTooLong (its.toArray.size * k.toNat)=true:=by
  rw [mW hlen]
  exact Bool.false_ne_true
 have hnew:List.foldl (fun x1 x2=>x1++x2) #[] (List.replicate (if its.toArray.isEmpty=true then 0 else k.toNat) its.toArray)=(List.replicate k.toNat its).flatten.toArray:=by
  have f0:∀m:Nat,List.foldl (fun x1 x2=>x1++x2) #[] (List.replicate m its.toArray)=(List.replicate m its).flatten.toArray:=fun m=>by
   have:=foldl_rep its m []
   rw [List.nil_append] at this
   exact this
  rw [f0]
  cases its with
  | nil=>simp
  | cons a r'=>rw [if_neg (by simp)]
 refine wpAny_binaryOp_repeat_ref (T:="list") (U:="int") (by decide) ⟨_,e,rfl⟩ (fun s'=>typeIs_int s' k t) noFill_list_mul F.fills_int_mul F.slot_int_rmul repeat_list F.slot_int_index.lookup
  (call_meets F.slot_int_rmul (typeIs_int s k t) F.entry_int_rmul (F.args_int_rmul_2 _ _) (int___rmul___int_list k t l its.toArray n)
   ⟨e,rfl,⟨_,e,rfl⟩,call_meets F.slot_list_mul ⟨_,e,rfl⟩ F.entry_list_mul (F.args_list_mul_2 _ _) (AutoListH.list___mul___list_int_3 l its.toArray n k t hfit hcap hlong) ⟨e,?_⟩⟩)
 rw [hnew]
 exact⟨.ref _,_,I.lnew (t':=s.toks) (r.rep k.toNat) (by rw [len_rep,Nat.mul_comm];exact hz),rfl,q _ I.fresh⟩
end
section
variable {prog:Program}{w:World}{A:Around}{E:Value->Shared->Prop}{s:Shared}
end
section
variable {X:Cx}
end
end L2
namespace Att
open PySem PySem.W PySem.Calls PyProof.Rows
theorem kN {P:Params}{h:Heap}:∀(ns:List Int) (vs:List Value),WellAll P h vs (ns.map WData.int)->IntsAre vs ns:=by
 intro ns
 induction ns with
 | nil =>
  intro vs w
  rw [List.map_nil] at w
  cases w
  exact .nil
 | cons n ns ih =>
  intro vs w
  rw [List.map_cons] at w
  cases w with
  | cons a b =>
   cases a
   exact .cons _ _ (ih _ b)
theorem my {l:OpenLaw}{n:Nat} (hn:l.most=some n) {P:Params}{h:Heap}{args:List WData}{vals:List Value}
  (hpre:l.row.toRowW.claim.pre args=true) (hwl:WellAll P h vals args) :
  ∃a vs ns,vals=[Value.ref a]/\args=[WData.list (ns.map WData.int)]/\h.get? a=some { cls:=.type "list",data:=.seq vs.toArray }/\IntsAre vs ns/\ns.length<=n:=by
 have hsh:WShape.hasAll [] args [.list .int]=true:=(pre_splitW hpre).1
 have hc:l.pre.holds [] { args:=args }=true:=(pre_splitW hpre).2
 obtain⟨d,r,rfl,h1,h2⟩:=hasAllW_cons hsh
 obtain rfl:=hasAllW_nil h2
 obtain⟨xs,rfl,h3⟩:=hasW_list h1
 obtain⟨ns,rfl⟩:=items_int h3
 have hlen:ns.length<=n:=by
  unfold OpenLaw.pre at hc
  have h4:(WTm.not (.lt (.lit (.int (n:Int))) (.len (.arg 0)))).holds [] { args:=[.list (ns.map .int)] }=true:=by
   have h4:=(holds_andW hc).1
   rw [hn] at h4
   exact h4
  have h5:=condW_of h4 (w_not (w_lt w_lit (w_len_list (w_arg rfl))))
  rw [List.length_map] at h5
  refine Nat.le_of_not_lt fun q=>?_
  have q':(n:Int) < ((ns.length:Nat):Int):=by omega
  first
   | (rw [decide_eq_true q'] at h5;exact absurd h5 (by decide))
   | (simp at h5;omega)
 cases hwl with
 | cons w1 w2 =>
  cases w2
  cases w1 with
  | list ho hall=>exact⟨_,_,ns,rfl,rfl,ho,kN ns _ hall,hlen⟩
theorem mv (l:OpenLaw) (args:List WData):l.row.toRowW.claim.post args (.bool true) args=true :=
 postW_of (r:=l.row.toRowW) (X:=(true == true))
  (show WShape.has [] (.bool true) .bool=true by first | rfl | decide | simp [WShape.has,WShape.arms,WShape.armsAll])
  (show (WTm.eq .res (.lit (.bool true))).value [] { args:=args,res:=some (.bool true),after:=args }=some (.bool (true == true)) from w_eq_bool (w_res rfl) w_lit) rfl
theorem rR {l:OpenLaw}{n:Nat}{q:Program}{loose:List Str}{XP:(Str->Option Value)->Heap->Prop}{YP:World->Heap->Prop}{d:DefRec}
  (hn:l.most=some n) (hdf:d.params.defaults=[])
  (call:∀(w:World) (s₀ s₁:Shared) (mg mb:Str->Option Value) (fa:Addr) (o:Obj) (pm cd doc:Value) (a:Addr) (vs:List Value) (ns:List Int),
   Ground q loose [] XP w s₀ mg mb s₁.heap->YP w s₁.heap ->
   s₁.heap.get? fa=some o->o.data=.func (docDef d.name d.params d.body d.scope pm cd doc)->s₁.heap.CodeRec cd d.name->mg d.name=some (.ref fa) ->
   s₁.heap.get? a=some { cls:=.type "list",data:=.seq vs.toArray }->IntsAre vs ns->ns.length<=n->s₁.gens=#[] ->
   codeAny (model l.prog w) callerA (.call (.ref fa) ⟨[.ref a],[]⟩) (fun r s'=>r=.ok (.ret (.bool true))/\OldK s₁.heap s'.heap/\s'.os=s₁.os/\AllBare s'.gens) s₁) :
  WalkO q loose XP YP l.row.toRowW d [] (fun f vs=>PySem.call f vs):=by
 intro w s₀ s₁ mg mb G Y fa o pm cd doc dV kV ho hd hcd hD hmg hg args vals as hpre hlay hrd hwl hlo
 obtain rfl:dV=.none:=Dflts.none hD hdf
 obtain rfl:kV=.none:=Dflts.noKw hD
 obtain⟨a,vs,ns,rfl,rfl,hobj,hints,hlen⟩:=my hn hpre hwl
 refine enter_call (codeAny_mono (call w s₀ s₁ mg mb fa o pm cd doc a vs ns G Y ho (fd_plain hd) hcd hmg hobj hints hlen hg) fun r s' hq=>?_)
 obtain⟨rfl,h2,h3,h4⟩:=hq
 exact⟨.inl ⟨.bool true,.bool true,[],rfl,fun _=>rfl,.bool true,mv l _,fun _=>⟨List.Pairwise.nil,fun _ hm=>(nomatch hm)⟩⟩,h2,h3,h4⟩
section
variable {prog:Program}{w:World}{A:Around}{E:Value->Shared->Prop}{s:Shared}{K:Frag}
end
end Att
namespace L2
open PySem PySem.Spec PyProof.Rows
theorem fh:∀{vs:List Value}{ns:List Int},IntsAre vs ns->am (ns.map V.int) vs
 | _,_,.nil=>.nil
 | _,_,.cons n t h=>.cons ⟨t,rfl⟩ (fh h)
noncomputable def gq (H:Hp):Prop:=∀b,H b=none\/∃o xs,H b=some (.frz o (.lst xs))
theorem nu {P:Program}{w:World}{K:PySem.W.Frag}{mg mb:Str->Option Value}{CX:CXT}{k:Nat}{fa a:Addr}{fd:FuncData}{x:Str}{sp:Sp}{s₁:Shared}{vs:List Value}{ns:List Int}
  (KX:K.In s₁.heap) (hns:s₁.heap.Ns mainGlobals mg) (hb:s₁.heap.Ns builtinsNs mb) (hbb:∀x:Str,x≠"__name__"->mb x=bootBuiltins x) (hlim:s₁.heap.NoLimit) (hg:s₁.gens=#[])
  (ha:s₁.heap.get? a=some { cls:=.type "list",data:=.seq vs.toArray }) (hi:IntsAre vs ns) (hl:ns.length<=sizeLine) (hr:aK k callerA)
  (F:∀base:Heap,K.In base->base.Ns mainGlobals mg->aH P w K mg base CX k fa fd [x] sp) (hbind:∀(s:Shared) (u:Value),BindsTo s fd ⟨[u],[]⟩ [(x,u)])
  (hsp:∀H:Hp,gq H->SqL K H a (ns.map V.int)->sp [.ref a] H (fun v _=>v=.bl true) fun _ _ _=>False)
  (hCX:∀H e s',CX [] H s₁ (fun _ _ _=>False) e s'->False) :
  codeAny (model P w) callerA (.call (.ref fa) ⟨[.ref a],[]⟩) (fun r s'=>r=.ok (.ret (.bool true))/\OldK s₁.heap s'.heap/\s'.os=s₁.os/\AllBare s'.gens) s₁:=by
 have rv:=fh hi
 have lenV:=hi.length
 have core:∀H:Hp,gq H->SqL K H a (ns.map V.int)->HOk P w H s₁.heap->(∀b,H b≠none->b=a)->(H a≠none->K.lookup a=none) ->
   codeAny (model P w) callerA (.call (.ref fa) ⟨[.ref a],[]⟩) (fun r s'=>r=.ok (.ret (.bool true))/\OldK s₁.heap s'.heap/\s'.os=s₁.os/\AllBare s'.gens) s₁:=by
  intro H hO hS hok hA hK
  have base_of:∀{b:Addr}{o:Obj},s₁.heap.get? b=some o->H b=none->(ck s₁.heap H).get? b=some o:=fun e n=>nF e n
  have noA:∀{b:Addr}{o:Obj}{es:Array DictEntry}{ep:Nat},s₁.heap.get? b=some o->o.data=.dict es ep->H b=none:=fun {b o es ep} e d=>by
   cases q:H b with
   | none=>rfl
   | some u =>
    have e':b=a:=hA b (by rw [q];simp)
    subst e'
    rw [ha] at e;cases e
    have d':Data.seq vs.toArray _=Data.dict es ep:=d
    cases d'
  have nsK:∀{b:Addr}{m:Str->Option Value},s₁.heap.Ns b m->(ck s₁.heap H).Ns b m:=fun {b m} ⟨o,es,ep,e,d,r⟩=>⟨o,es,ep,base_of e (noA e d),d,r⟩
  have hKb:K.In (ck s₁.heap H):=fun b o e=>base_of (KX b o e) (by
   cases q:H b with
   | none=>rfl
   | some u =>
    have e':b=a:=hA b (by rw [q];simp)
    subst e'
    rw [hK (by rw [q];simp)] at e;cases e)
  have hM:Mod K mg (ck s₁.heap H):=⟨hKb,nsK hns,⟨mb,nsK hb,hbb⟩,let ⟨mc,h1,h2⟩:=hlim;⟨mc,nsK h1,h2⟩⟩
  have e0:fc P w K mg (ck s₁.heap H) callerA [] s₁ H:=⟨rfl,hM,fun b o e=>oM e,Nat.le_of_eq (ma _ _),trivial,fun b hb=>absurd (show b∈([]:List Addr) from hb) (by simp),hok,.of_eq hg⟩
  refine codeAny_mono ((F _ hKb (nsK hns)).run callerA [] s₁ H ⟨[.ref a],[]⟩ [.ref a] [.ref a] _ _ hr e0 (hbind s₁ (.ref a)) (.cons rfl .nil) (hsp H hO hS)) fun r s' h=>?_
  cases r with
  | error e=>exact (hCX H e s' h).elim
  | ok fl =>
   cases fl with
   | next=>exact False.elim h
   | brk=>exact False.elim h
   | cont=>exact False.elim h
   | ret u =>
    obtain⟨v,H',os,bare,un,hok',r',q⟩:=h
    have q':v=.bl true:=q
    subst q'
    obtain rfl:u=Value.bool true:=r'
    refine⟨rfl,OldK.of_keep fun b o e=>?_,os,bare⟩
    cases q:H b with
    | none=>exact un.keep b o e q (by intro z;exact absurd (show b∈([]:List Addr) from z) (by simp)) (by simp)
    | some u =>
     rcases hO b with z | ⟨ob,xs,z⟩
     ·rw [q] at z;cases z
     ·have z2:=un.frzs b ob _ z
      obtain⟨e1,_⟩:=hok b _ z
      obtain⟨e2,_⟩:=hok' b _ z2
      rw [e] at e1;cases e1
      exact e2
 cases hk:K.lookup a with
 | some o =>
  have e:=KX a o hk
  rw [ha] at e
  cases e
  refine core (fun _=>none) (fun _=>.inl rfl) (.inr ⟨_,vs.toArray,_,hk,rfl,rfl,rfl,by rw [List.size_toArray,lenV];exact hl,by simpa using rv⟩) (fun b u z=>by have z':(none:Option HO)=some u:=z;cases z') (fun b z=>absurd rfl z) fun z=>absurd rfl z
 | none =>
  refine core (fun b=>if b=a then some (.frz { cls:=.type "list",data:=.seq vs.toArray } (.lst (ns.map V.int))) else none) (fun b=>?_) (.inl (.inr ⟨{ cls:=.type "list",data:=.seq vs.toArray },if_pos rfl⟩)) (fun b u z=>?_) (fun b z=>?_) fun _=>hk
  ·by_cases hb:b=a
   ·exact .inr ⟨_,_,if_pos hb⟩
   ·exact .inl (if_neg hb)
  ·by_cases hb:b=a
   ·have z':=(if_pos hb).symm.trans z
    cases z'
    subst hb
    exact⟨ha,by rw [List.length_map];exact hl,vs,_,rv,ha⟩
   ·have z':=(if_neg hb).symm.trans z
    cases z'
  ·by_cases hb:b=a
   ·exact hb
   ·exact absurd (if_neg hb) z
theorem rY {l:PySem.W.OpenLaw}{n k:Nat}{q:Program}{loose:List Str}{XP:(Str->Option Value)->Heap->Prop}{YP:World->Heap->Prop}{d:DefRec}{K:Params->PySem.W.Frag}{CX:World->CXT}{sp:World->Sp}{x:Str}
  (hn:l.most=some n) (hn2:n<=sizeLine) (hdf:d.params.defaults=[]) (hr:aK k callerA)
  (hY:∀(w:World) (h:Heap),YP w h->(K w.params).In h)
  (F:∀(w:World) (mg:Str->Option Value) (fa:Addr) (h:Heap),(K w.params).In h->h.Ns mainGlobals mg->mg d.name=some (.ref fa) ->
   ∃fd:FuncData,(∀(s:Shared) (u:Value),BindsTo s fd ⟨[u],[]⟩ [(x,u)]) /\
    ∀base:Heap,(K w.params).In base->base.Ns mainGlobals mg->aH l.prog w (K w.params) mg base (CX w) k fa fd [x] (sp w))
  (hsp:∀(w:World) (H:Hp) (a:Addr) (ns:List Int),ns.length<=n->gq H->SqL (K w.params) H a (ns.map V.int)->sp w [.ref a] H (fun v _=>v=.bl true) fun _ _ _=>False)
  (hCX:∀(w:World) (H:Hp) (s:Shared) (e:Value) (s':Shared),CX w [] H s (fun _ _ _=>False) e s'->False) :
  PySem.W.WalkO q loose XP YP l.row.toRowW d [] (fun f vs=>PySem.call f vs):=by
 refine Att.rR hn hdf fun w s₀ s₁ mg mb fa o pm cd doc a vs ns G Y ho hd hcd hmg hobj hints hlen hg=>?_
 have KX:=hY w _ Y
 obtain⟨fd,hb,hF⟩:=F w mg fa _ KX G.T.g hmg
 exact nu KX G.T.g G.T.b G.T.builtins G.T.nolimit hg hobj hints (Nat.le_trans hlen hn2) hr hF hb (fun H hO hS=>hsp w H a ns hlen hO hS) fun H e s'=>hCX w H s₁ e s'
end L2
/- THE LAST THEOREM (shape;LID,My.* are yours):
  My.Adr: a structure of the addresses that your layer names (classes,functions);My.Txt K t: a structure (Prop) of the equations over K;
  My.txt_mk:{K}{implicit addresses ..} (e1:nsIn K mainGlobals "law"=some (some (.ref f))) (e2:K.lookup f=some ⟨oc,od,.func (fnOf "law" "law" params body scope dV kV doc pm an cdv ct),sl⟩) (e3:codeIn K cdv "law"=true) ..:∃t,My.Txt K t
set_option maxRecDepth 100000 in
set_option maxHeartbeats 0 in
theorem PySem.Challenge.cw_LID_holds : PySem.Challenge.rw_LID.Holds := by
 w_on;o_law;k_head;(case hw=>w_witness2)
 k_fill
 refine L2.rY (l:=PySem.Challenge.rw_LID) (n:=63) (k:=40) (x:="script") (CX:=fun w=>..) (sp:=fun _=>My.sp_law) rfl (by decide) rfl ⟨rfl,by decide,by decide⟩ (fun w h Y=>PySem.W.kIn_of Y) ?F ?S ?C
 case F =>
  intro w mg fa h KX G hmg
  have T:∃t,My.Txt (L2.KOf KX) t:=by
   dsimp only [L2.KOf]
   refine' My.txt_mk ?e1 ?e2 ?e3 ..
   (case e1=>PySem.W.k_is)
   (case e2=>PySem.W.k_is)
   ..
  obtain⟨t,T⟩:=T
  have e0:=hmg.symm.trans (PySem.W.mg_of KX G T.law)
  cases e0
  exact⟨_,fun s u=>.of_eq rfl,fun base kb nb=>My.law_fn T kb nb⟩
 case S=>exact fun w H a ns hl hO hS=>..
 case C=>exact ..
(the tactic k_is has no namespace: write k_is) -/
namespace L2
open PySem PySem.Spec PyProof.Rows
noncomputable def cx (s:Stmt):Arguments:=match s with
 | .FunctionDef _ a _ _ _ _ _ _ _ _=>a
 | _=>{ posonlyargs:=[],args:=[],vararg:=none,kwonlyargs:=[],kw_defaults:=[],kwarg:=none,defaults:=[] }
noncomputable def b8 (s:Stmt):List Stmt:=match s with
 | .FunctionDef _ _ b _ _ _ _ _ _ _=>b
 | _=>[]
noncomputable def aF (s:Stmt):Scope:=match s with
 | .FunctionDef _ _ _ _ _ _ sc _ _ _=>sc
 | _=>{ kind:=.function,names:=[],isGenerator:=false,isCoroutine:=false }
noncomputable abbrev CX0:CXT:=fun _ _ _ _ _ _=>False
noncomputable abbrev E0:XK:=fun _ _ _=>False
theorem qA {X:Cx}:fM CX0 X E0:=fun _ _ _ _ _ _ _ h=>h.elim
structure Fun (K:PySem.W.Frag) (x qual:Str) (st:Stmt) (f:Addr) (fd:FuncData):Prop where
 ex:∃(oc:Value) (od:Option Addr) (kV doc pm:Value) (an:Option Addr) (cdv ct:Value) (osl:Array (Option Value)),
  fd=PySem.W.fnOf x qual (cx st) (b8 st) (aF st) .none kV doc pm an cdv ct/\K.lookup f=some ⟨oc,od,.func fd,osl⟩/\PySem.W.codeIn K cdv qual=true
 kp:PySem.W.keepIn K (.ref f)=true
section
variable {P:Program}{w:World}{K:PySem.W.Frag}{mg:Str->Option Value}{base:Heap}
theorem Fun.ok {x qual:Str}{st:Stmt}{f:Addr}{fd:FuncData}{N ps:List Str}{k:Nat}{sp:Sp} (F:Fun K x qual st f fd) (S:aQ N ps (aF st)) (len:∀vs H Q E,sp vs H Q E->vs.length=ps.length)
  (hbody:∀(cdv:Value) (A:Around) (outer:List Env) (s:Shared) (H:Hp) (vs:List V) (Q:VK) (E:XK),aK k (A.deeper (envOfC qual (aF st) s.heap.objs.size f cdv))->sp vs H Q E ->
   ∃t,PSs (dw CX0 P w K mg base N qual (aF st) f cdv A outer s H E).nox (b8 st) t/\t { nx:=fun _ H'=>Q .non H',rt:=Q } (start N vs) H):aH P w K mg base CX0 (k + 1) f fd ps sp:=by
 obtain⟨oc,od,kV,doc,pm,an,cdv,ct,osl,rfl,lk,hcd⟩:=F.ex
 refine qO lk hcd S len fun A outer s H vs Q E hr hsp=>?_
 obtain⟨t,h,q⟩:=hbody cdv A outer s H vs Q E hr hsp
 exact⟨t,h.nox,q⟩
theorem Fun.binds {x qual:Str}{st:Stmt}{f:Addr}{fd:FuncData}{ps:List Str} (F:Fun K x qual st f fd)
  (h:∀(kV doc pm:Value) (an:Option Addr) (cdv ct:Value) (us:List Value),us.length=ps.length->bindArgs (PySem.W.fnOf x qual (cx st) (b8 st) (aF st) .none kV doc pm an cdv ct) ⟨us,[]⟩=pure (ps.zip us)):Binds K fd ps []:=by
 obtain⟨oc,od,kV,doc,pm,an,cdv,ct,osl,rfl,lk,hcd⟩:=F.ex
 exact .all (h kV doc pm an cdv ct)
theorem jF {x qual:Str}{st:Stmt}{f:Addr}{oc:Value}{od an:Option Addr}{osl:Array (Option Value)}{kV doc pm cdv ct:Value} (l:K.lookup f=some ⟨oc,od,.func (PySem.W.fnOf x qual (cx st) (b8 st) (aF st) .none kV doc pm an cdv ct),osl⟩)
  (c:PySem.W.codeIn K cdv qual=true) (k:PySem.W.keepIn K (.ref f)=true):Fun K x qual st f (PySem.W.fnOf x qual (cx st) (b8 st) (aF st) .none kV doc pm an cdv ct):=⟨⟨oc,od,kV,doc,pm,an,cdv,ct,osl,rfl,l,c⟩,k⟩
end
theorem mr {n:Nat} (h:n<=1000):n < sizeLine:=Nat.lt_of_le_of_lt h (by decide)
section
variable {X:Cx}
theorem pv (i:Nat) {x:Str}{pos:Pos} (hN:X.N[i]?=some x:=by rfl) (hv:Vis X.env.scope x:=by first | exact Or.inl rfl | exact Or.inr (Or.inl rfl) | exact Or.inr (Or.inr rfl)) (hd:(x == ("__debug__":Str))=false:=by decide)
  (hcd:(x == ("__classdict__":Str))=false:=by decide):PE X (.Name x pos) (kh i):=qg hN hv hd hcd
end
theorem bq {A B:Prop} (h:B):if false=true then A else B:=by
 rw [if_neg Bool.false_ne_true]
 exact h
theorem bP {A B:Prop} (h:A):if true=true then A else B:=by
 rw [if_pos rfl]
 exact h
theorem aX {c A B:Prop} [Decidable c] (h1:c->A) (h2:¬ c->B):if c then A else B:=by
 by_cases h:c
 ·rw [if_pos h]
  exact h1 h
 ·rw [if_neg h]
  exact h2 h
theorem eZ {c A B:Prop} [Decidable c] (hc:c) (h:B):if (!decide c)=true then A else B:=by
 rw [decide_eq_true hc]
 exact bq h
noncomputable def ae (H H':Hp):Prop:=∀b o,H b=some o->H' b=some o
theorem ae.refl (H:Hp):ae H H:=fun _ _ h=>h
theorem ae.trans {H H1 H2:Hp} (a:ae H H1) (b:ae H1 H2):ae H H2:=fun c o h=>b c o (a c o h)
theorem ae.free {H H':Hp} (e:ae H H') {l:Addr} (h:H' l=Option.none):H l=Option.none:=by
 cases q:H l with
 | none=>rfl
 | some o =>
  rw [e l o q] at h
  cases h
theorem ae.seq {K:PySem.W.Frag}{H H':Hp}{a:Addr}{xs:List V} (e:ae H H') (h:SqL K H a xs):SqL K H' a xs:=by
 rcases h with (h | ⟨o,h⟩) | h
 ·exact .inl (.inl (e _ _ h))
 ·exact .inl (.inr ⟨o,e _ _ h⟩)
 ·exact .inr h
noncomputable def bp (env:Env):List (Str×NameKind)->List (Str×Addr)->List (Str×Addr)
 | [],acc=>acc
 | (x,k)::r,acc=>if (k == NameKind.free)=true then (match env.cells.lookup x with | some c=>bp env r ((x,c)::acc) | none=>bp env r acc) else bp env r acc
theorem et (env:Env):∀(ns:List (Str×NameKind)) (acc:List (Str×Addr)) (x:Str) (c:Addr),(x,c)∈bp env ns acc->(x,c)∈acc\/env.cells.lookup x=some c
 | [],acc,x,c,h=>.inl h
 | (y,k)::r,acc,x,c,h=>by
  unfold bp at h
  split at h
  ·split at h
   ·next d e =>
    rcases et env r _ x c h with z | z
    ·rcases List.mem_cons.mp z with q | q
     ·cases q;exact .inr e
     ·exact .inl q
    ·exact .inr z
   ·exact et env r acc x c h
  ·exact et env r acc x c h
theorem ez (env:Env):∀(ns:List (Str×NameKind)) (acc:List (Str×Addr)) (p:Str×Addr),p∈acc->p∈bp env ns acc
 | [],acc,p,h=>h
 | (y,k)::r,acc,p,h=>by
  unfold bp
  split
  ·split
   ·exact ez env r _ p (List.mem_cons_of_mem _ h)
   ·exact ez env r _ p h
  ·exact ez env r _ p h
theorem eA (env:Env):∀(ns:List (Str×NameKind)) (acc:List (Str×Addr)) (x:Str) (c:Addr),(x,NameKind.free)∈ns->env.cells.lookup x=some c->(x,c)∈bp env ns acc
 | [],acc,x,c,h,_=>nomatch h
 | (y,k)::r,acc,x,c,h,e=>by
  unfold bp
  rcases List.mem_cons.mp h with q | q
  ·cases q
   rw [if_pos (show (NameKind.free == NameKind.free)=true from rfl),e]
   exact ez env r _ _ List.mem_cons_self
  ·split
   ·split
    ·exact eA env r _ x c q e
    ·exact eA env r _ x c q e
   ·exact eA env r _ x c q e
theorem nr {l:List (Str×Addr)}{x:Str}{c:Addr} (h:(x,c)∈l):∃d,l.lookup x=some d:=by
 induction l with
 | nil=>cases h
 | cons p r ih =>
  obtain⟨y,d⟩:=p
  rw [List.lookup_cons]
  cases hx:x == y with
  | true=>exact⟨d,rfl⟩
  | false =>
   rcases List.mem_cons.mp h with q | q
   ·cases q
    rw [beq_self_eq_true] at hx
    cases hx
   ·exact ih q
theorem b6 {env:Env}{ns:List (Str×NameKind)}{x:Str}{c:Addr} (h:(bp env ns []).lookup x=some c):env.cells.lookup x=some c:=by
 rcases et env ns [] x c (PySem.mem_of_lookup h) with z | z
 ·cases z
 ·exact z
theorem iG {env:Env}{ns:List (Str×NameKind)}{x:Str}{c:Addr} (h:(x,NameKind.free)∈ns) (e:env.cells.lookup x=some c):(bp env ns []).lookup x=some c:=by
 obtain⟨d,q⟩:=nr (eA env ns [] x c h e)
 rw [q,<- b6 q,e]
theorem lD {env:Env}{scope:Scope} (h:∀x∈scope.names,x.2=NameKind.free->∃c,env.cells.lookup x.1=some c):closureFor scope env=pure (bp env scope.names []):=by
 have go:∀(ns:List (Str×NameKind)) (acc:List (Str×Addr)),(∀x∈ns,x.2=NameKind.free->∃c,env.cells.lookup x.1=some c) ->
   (forIn ns acc (fun x cs=>match x with | (name,kind)=>if (kind == NameKind.free)=true then (do let c <- cellOf env name;pure (ForInStep.yield ((name,c)::cs))) else pure (ForInStep.yield cs)):Sem (List (Str×Addr)))=pure (bp env ns acc):=by
  intro ns
  induction ns with
  | nil=>intro acc _;rfl
  | cons p r ih =>
   intro acc hh
   obtain⟨y,k⟩:=p
   rw [List.forIn_cons]
   unfold bp
   by_cases hk:(k == NameKind.free)=true
   ·rw [if_pos hk]
    obtain⟨c,e⟩:=hh (y,k) List.mem_cons_self (by cases k <;> first | rfl | cases hk)
    dsimp only at e ⊢
    rw [if_pos hk]
    unfold cellOf
    rw [e]
    exact ih _ fun x hx=>hh x (List.mem_cons_of_mem _ hx)
   ·rw [if_neg hk]
    dsimp only
    rw [if_neg hk]
    exact ih _ fun x hx=>hh x (List.mem_cons_of_mem _ hx)
 unfold closureFor
 have q:=go scope.names [] h
 simp only [bind_pure]
 exact q
noncomputable def aA (X:Cx) (scope:Scope) (N:List Str) (C:Addr) (s0:Shared) (H0:Hp) (fp:List Addr):Cx :=
 { X with N:=N,s₀:=s0,H₀:=H0,env:=compEnvC scope (bp X.env scope.names []) C X.env,outer:=X.stack,stack:=X.stack,ex:=fp,fn:=fun _=>false,pn:=[],xe:=fun _ _=>False }
noncomputable def emb (ix:List (Option Nat)) (σ:St):St:=ix.map fun o=>match o with | none=>none | some j=>(σ[j]?).join
noncomputable def gc (No:List Str) (out:Str->Option NameKind) (scope:Scope) (N:List Str) (ix:List (Option Nat)):Bool :=
 (N.length == ix.length) && (N.zip ix).all fun p=>match p.2 with | none=>true | some j=>(No[j]? == some p.1) && (scope.names.lookup p.1 == some NameKind.free) && ((out p.1 == some .cell) || (out p.1 == some .free))
structure bf (X:Cx) (scope:Scope) (N:List Str) (ix:List (Option Nat)):Prop where
 kind:scope.kind=.function
 names:scope.names.all (fun x=>(x.2 != .cell) && ((x.2 != .local) || (scope.names.lookup x.1 == some .local)) && ((x.2 != .free) || (X.env.kindOf x.1 == some .cell) || (X.env.kindOf x.1 == some .free)))=true
 em:gc X.N X.env.kindOf scope N ix=true
 nd:N.Nodup
theorem fZ {scope:Scope}{env:Env}{x:Str}{k:NameKind}:∀{ns:List (Str×NameKind)},(ns.map fun (n,k)=>if (k == NameKind.free && env.scope.kind == .function && env.kindOf n == some .cell)=true then (n,NameKind.cell) else (n,k)).lookup x=some k ->
  (k=.cell\/k=.free)->(∀y∈ns,y.2≠.cell)->(x,NameKind.free)∈ns
 | [],h,_,_=>by cases h
 | (n,k')::r,h,hk,hc=>by
  have ih:=fun h'=>fZ (scope:=scope) (env:=env) (x:=x) (k:=k) (ns:=r) h' hk fun y hy=>hc y (List.mem_cons_of_mem _ hy)
  have key:∀k'':NameKind,List.lookup x ((n,k'')::(r.map fun (n,k)=>if (k == NameKind.free && env.scope.kind == .function && env.kindOf n == some .cell)=true then (n,NameKind.cell) else (n,k)))=some k ->
    (k''=k'\/(k''=.cell/\k'=.free))->(x,NameKind.free)∈(n,k')::r:=fun k'' h hq=>by
   rw [List.lookup_cons] at h
   cases hx:x == n with
   | true =>
    rw [hx] at h
    cases h
    have e:x=n:=eq_of_beq hx
    subst e
    rcases hq with q | ⟨_,q⟩
    ·rcases hk with z | z
     ·exact absurd (q.symm.trans z) (hc (x,k') List.mem_cons_self)
     ·rw [<- q,z];exact List.mem_cons_self
    ·rw [q];exact List.mem_cons_self
   | false =>
    rw [hx] at h
    exact List.mem_cons_of_mem _ (ih h)
  rw [List.map_cons] at h
  dsimp only at h
  split at h
  ·next hh =>
   refine key _ h (.inr ⟨rfl,?_⟩)
   cases k' <;> first | rfl | (simp at hh)
  ·exact key _ h (.inl rfl)
theorem jI {env:Env}{x:Str}:∀{ns:List (Str×NameKind)},ns.lookup x=some NameKind.free->∃k,(k=NameKind.cell\/k=NameKind.free) /\
  (ns.map fun (n,k)=>if (k == NameKind.free && env.scope.kind == .function && env.kindOf n == some .cell)=true then (n,NameKind.cell) else (n,k)).lookup x=some k
 | [],h=>by cases h
 | (n,k')::r,h=>by
  rw [List.lookup_cons] at h
  rw [List.map_cons]
  dsimp only
  cases hx:x == n with
  | true =>
   rw [hx] at h
   cases h
   split
   ·exact⟨_,.inl rfl,by rw [List.lookup_cons,hx]⟩
   ·exact⟨_,.inr rfl,by rw [List.lookup_cons,hx]⟩
  | false =>
   rw [hx] at h
   obtain⟨k,hk,e⟩:=jI (env:=env) (ns:=r) h
   refine⟨k,hk,?_⟩
   split <;> (rw [List.lookup_cons,hx];exact e)
section
variable {X:Cx}{scope:Scope}{N:List Str}{ix:List (Option Nat)}
theorem bf.nocell (L:bf X scope N ix):∀x∈scope.names,x.2≠.cell:=fun x hx z=>by
 have q:=List.all_eq_true.mp L.names x hx
 rw [z] at q
 simp at q
theorem bf.locals (L:bf X scope N ix):∀x∈scope.names,x.2=.local->scope.names.lookup x.1=some .local:=fun x hx z=>by
 have q:=List.all_eq_true.mp L.names x hx
 rw [z] at q
 simpa using q
theorem bf.frees (L:bf X scope N ix):∀x∈scope.names,x.2=.free->X.env.kindOf x.1=some .cell\/X.env.kindOf x.1=some .free:=fun x hx z=>by
 have q:=List.all_eq_true.mp L.names x hx
 rw [z] at q
 simpa using q
theorem bf.clos (L:bf X scope N ix) (ok:X.Ok):closureFor scope X.env=pure (bp X.env scope.names []) :=
 lD fun x hx z=>ok.has _ (L.frees x hx z)
theorem bf.len (L:bf X scope N ix):N.length=ix.length:=by
 have q:=L.em
 unfold gc at q
 rw [Bool.and_eq_true] at q
 exact eq_of_beq q.1
theorem bf.out (L:bf X scope N ix) {i j:Nat}{x:Str} (h1:N[i]?=some x) (h2:ix[i]?=some (some j)):X.N[j]?=some x/\scope.names.lookup x=some NameKind.free/\(X.env.kindOf x=some .cell\/X.env.kindOf x=some .free):=by
 have q:=L.em
 unfold gc at q
 rw [Bool.and_eq_true] at q
 have hz:(N.zip ix)[i]?=some (x,some j):=by
  rw [List.getElem?_zip_eq_some]
  exact⟨h1,h2⟩
 have r:=List.all_eq_true.mp q.2 _ (List.mem_of_getElem? hz)
 simp only [Bool.and_eq_true,Bool.or_eq_true,beq_iff_eq] at r
 exact⟨r.1.1,r.1.2,r.2⟩
theorem qj (L:bf X scope N ix) {pins:List (Addr×Obj)}{σ:St}{H2:Hp}{s2:Shared}{C:Addr}{fp:List Addr} (I2:Inv X pins σ H2 s2) (hC:s2.heap.objs.size<=C) (hf:∀b∈fp,br X pins H2 b) (hb:∀b∈fp,b < s2.heap.objs.size) :
  (aA X scope N C s2 H2 fp).Ok where
 mod:=I2.ok.mod
 kind:=L.kind
 glob:=I2.ok.glob
 blt:=I2.ok.blt
 above:=hC
 inj:=fun x y c h1 h2=>I2.ok.inj x y c (b6 h1) (b6 h2)
 has:=fun x hx=>by
  have hm:(x,NameKind.free)∈scope.names:=by
   rcases hx with hx | hx
   ·exact fZ (scope:=scope) (env:=X.env) hx (.inl rfl) L.nocell
   ·exact fZ (scope:=scope) (env:=X.env) hx (.inr rfl) L.nocell
  obtain⟨c,e⟩:=I2.ok.has x (L.frees _ hm rfl)
  exact⟨c,iG hm e⟩
 cab:=fun x c h _=>Bool.noConfusion h
 hd:=I2.ok.hd
 frames:=I2.ok.frames
 stk:=.inl rfl
 exf:=fun b h=>⟨Nat.ne_of_lt (Nat.lt_of_lt_of_le (hb b h) hC),fun x c e=>(hf b h).2.2.2.2.1 x c (b6 e)⟩
 bs:=fun b o e=>I2.bs b o e
 bsz:=Nat.le_trans I2.ok.bsz I2.sz
 noex:=fun b o e h=>by
  rcases (hf b h).2.2.2.1 with z | z
  ·exact I2.ok.noex b o e z
  ·exact absurd (Nat.lt_of_lt_of_le (Heap.lt_size e) (Nat.le_trans I2.ok.bsz z)) (Nat.lt_irrefl _)
 exfs:=fun b h z=>(List.mem_cons.mp (I2.stkSub b z)).elim (hf b h).2.1 (hf b h).2.2.1
 funs:=I2.stack
 frf:=fun b h=>I2.stkFree b h
end
noncomputable def PTs (X:Cx) (ifs:List Expr) (t:TT):Prop :=
 ∀(pins:List (Addr×Obj)) (s:Shared) (σ:St) (H:Hp) (Q:Bool->Hp->Prop),Inv X pins σ H s->t σ H Q ->
  wpAny (model X.prog X.w) X.A (forIn ifs true fun c r=>if r=true then do let ok <- isTrue c X.env (eval c X.env);pure (ForInStep.yield ok) else pure (ForInStep.yield r)) (TP X pins σ Q) X.xe s
noncomputable def be:TT:=fun _ H Q=>Q true H
theorem a9 {X:Cx}:PTs X [] be:=fun _ _ _ H _ I h=>wpAny_tests_nil ⟨H,I,h⟩
theorem dj {X:Cx}{c:Expr}{t:TT} (h:PT X c t):PTs X [c] t:=fun pins s σ H Q I q=>wpAny_tests_one (h pins s σ H Q I q)
section
variable {prog:Program}{w:World}{A:Around}{R:Result->Shared->Prop}{s:Shared}
theorem nU {elt tg iter:Expr}{ifs:List Expr}{scope:Scope}{pos:Pos}{it acc:Value}{env:Env} (J:Nat->Shared->Prop)
  (turn:∀n s,J n s->wpAny (model prog w) A (pyNext it) (fun r s1=>match r with
   | none=>R (.ok .next) s1
   | some v=>wpAny (model prog w) A (letOwnedTupleGo tg it v) (fun _ s2=>wpAny (model prog w) A (assign tg env v) (fun _ s3 =>
     wpAny (model prog w) A (forIn ifs true fun c r=>if r=true then do let ok <- isTrue c env (eval c env);pure (ForInStep.yield ok) else pure (ForInStep.yield r)) (fun ok s4 =>
      if ok=true then wpAny (model prog w) A (eval elt env) (fun x s5=>wpAny (model prog w) A (call (.builtin "list.append") [acc,x]) (fun _ s6=>∃m,m < n/\J m s6) (fun _ _=>False) s5) (fun _ _=>False) s4
      else ∃m,m < n/\J m s4) (fun _ _=>False) s3) (fun _ _=>False) s2) (fun _ _=>False) s1) (fun _ _=>False) s)
  (n:Nat) (h:J n s):codeAny (model prog w) A (.compLoop (.ListComp elt [⟨tg,iter,ifs,0⟩] scope pos) 0 it acc env) R s:=by
 refine codeAny_loop rfl J (fun k t hJ=>?_) n h
 show wpAny _ A ((compTurn (.ListComp elt [⟨tg,iter,ifs,0⟩] scope pos) 0 it acc env).onRaise (fun x=>do noteFrame x env;theTreesLotGoes x)) _ _ t
 refine wpAny_noted (wpAny_mono (E:=fun _ _=>False) ?_ (fun _ _ q=>q) fun _ _ f=>f.elim)
 rw [compTurn_list]
 refine wpAny_bind (wpAny_standAt (wpAny_bind (thn (turn k t hJ) fun r s1 h1=>?_)))
 cases r with
 | none=>exact wpAny_pure h1
 | some v =>
  refine wpAny_bind (thn h1 fun _ s2 h2=>wpAny_bind (thn h2 fun _ s3 h3=>wpAny_bind (thn h3 fun ok s4 h4=>?_)))
  cases ok with
  | false=>exact wpAny_pure ⟨rfl,h4⟩
  | true=>exact wpAny_bind (wpAny_bind (thn h4 fun x s5 h5=>wpAny_bind (thn h5 fun _ s6 h6=>wpAny_pure (wpAny_pure ⟨rfl,h6⟩))))
end
noncomputable def LcW (J:It) (g:TG) (tt:TT) (te:TE) (σ':St) (fin:List V->Hp->Prop) (H1:Hp):Prop :=
 ∃W:Nat->Nat->List V->St->Hp->Prop,(∃m,W 0 m [] σ' H1)/\∀i m ys σ H,W i m ys σ H ->
  (J.stop i H/\ys.length<=sizeLine/\fin ys H)\/(J.go i H/\ys.length < sizeLine/\∃Nx:List V->St->Hp->Prop,(∀ys' σ' H',Nx ys' σ' H'->∃m',m' < m/\W (i + 1) m' ys' σ' H') /\
   ∀x H',J.yld i H x H'->g x σ H' fun σ2 H2=>tt σ2 H2 fun b H3=>if b=true then te σ2 H3 (fun v H4=>Nx (ys++[v]) σ2 H4) else Nx ys σ2 H3)
noncomputable def tLc (wi:TI) (g:TG) (tt:TT) (te:TE) (ix:List (Option Nat)):TE:=fun σ H Q=>wi σ H fun J H1=>LcW J g tt te (emb ix σ) (fun ys H'=>∀p,H' p=none->Q (.ref p) (upd H' p (.lst ys))) H1
section
variable {X:Cx}{scope:Scope}{N:List Str}{ix:List (Option Nat)}
theorem pd {pins pins':List (Addr×Obj)}{σ σ':St}{H2 H':Hp}{s2 s':Shared}{C D:Addr}{fp:List Addr}{ys:List V}{its:List Value}{k:Nat}{h':Heap} (I2:Inv X pins σ H2 s2) (hf:∀b∈fp,br X pins H2 b)
  (I':Inv (aA X scope N C s2 H2 fp) pins' σ' H' s') (hC:s2.heap.objs.size<=C) (hD:s2.heap.objs.size<=D) (hDC:D≠C) (hn:H' D=none) (ho:s'.heap.get? D=some { cls:=.type "list",data:=.seq its.toArray k }) (rv:am ys its) (hz:ys.length<=sizeLine)
  (hs:∀b o,b≠C->s'.heap.get? b=some o->h'.get? b=some o):Inv X pins σ (upd H' D (.lst ys)) { s' with heap:=h' }:=by
 have B:Un (frs X.stack) fp H2 H' s2.heap s'.heap:=I'.base
 have neC:∀b o,s2.heap.get? b=some o->b≠C:=fun b o e=>Nat.ne_of_lt (Nat.lt_of_lt_of_le (Heap.lt_size e) hC)
 have neD:∀b o,s2.heap.get? b=some o->b≠D:=fun b o e=>Nat.ne_of_lt (Nat.lt_of_lt_of_le (Heap.lt_size e) hD)
 have hCn:H' C=none:=I'.free
 have tD:∀b u,H' b=some u->b≠D:=fun b u e=>ax e hn
 have tC:∀b u,H' b=some u->b≠C:=fun b u e=>ax e hCn
 refine I2.call' (s':={ s' with heap:=h' }) (ch:=fp) I'.os ⟨fun b o e n hb hx=>?_,fun b o e n hb hx=>?_,fun b o e n hx=>?_,fun b o e hx=>?_,fun b xs e=>?_,fun b o u e=>?_,fun b ps e=>?_⟩ (fun b u e=>?_) I'.bare fun b hb=>⟨(hf b hb).2.2.2.1,(hf b hb).2.1,(hf b hb).2.2.2.2.1,(hf b hb).2.2.2.2.2⟩
 ·exact hs b o (neC b o e) (B.keep b o e n hb hx)
 ·obtain⟨sl,q⟩:=B.slot b o e n hb hx
  exact⟨sl,hs b _ (neC b o e) q⟩
 ·rw [ag (neD b o e)];exact B.free b o e n hx
 ·obtain⟨o',q⟩:=B.there b o e hx
  exact⟨o',hs b o' (neC b o e) q⟩
 ·rw [ag (tD b _ (B.tups b xs e))];exact B.tups b xs e
 ·rw [ag (tD b _ (B.frzs b o u e))];exact B.frzs b o u e
 ·obtain⟨m,q⟩:=B.tbls b ps e
  exact⟨m,by rw [ag (tD b _ q)];exact q⟩
 ·by_cases hb:b=D
  ·subst hb
   rw [ai] at e
   cases e
   exact⟨hz,its,k,rv,hs b _ hDC ho⟩
  ·rw [ag hb] at e
   refine (I'.hok b u e).stay (fun c v hc q=>hs c v ?_ q) (fun c q=>by rw [ag (tD c _ q)];exact q) fun c xs q=>by rw [ag (tD c _ q)];exact q
   rcases hc with z | z
   ·rw [z];exact tC b u e
   ·exact tC c _ z
theorem jP (L:bf X scope N ix) {pins:List (Addr×Obj)}{σ:St}{H2:Hp}{s2:Shared}{C:Addr}{fp:List Addr}{h1:Heap}{tk:Nat}{m:Str->Option Value} (I2:Inv X pins σ H2 s2) (hC:s2.heap.objs.size<=C) (hf:∀b∈fp,br X pins H2 b) (hb:∀b∈fp,b < s2.heap.objs.size)
  (kp:∀b o,s2.heap.get? b=some o->h1.get? b=some o) (hn:h1.Ns C m):Inv (aA X scope N C s2 H2 fp) [] (emb ix σ) H2 { s2 with heap:=h1,toks:=tk }:=by
 refine⟨qj L I2 hC hf hb,rfl,I2.bare,Un.kept kp,⟨m,hn,fun i x v e1 e2 e3=>?_⟩,fun x c e=>?_,I2.hok.fresh hC,fun x c e=>I2.freeC x c (b6 e),fun p hp=>absurd (show p∈([]:List (Addr×Obj)) from hp) (by simp),I2.hok.kept kp,?_⟩
 ·unfold emb at e2
  rw [List.getElem?_map] at e2
  cases q:ix[i]? with
  | none=>rw [q] at e2;cases e2
  | some o =>
   rw [q] at e2
   cases o with
   | none=>cases e2
   | some j =>
    have e2':(σ[j]?).join=some v:=Option.some.inj e2
    have e4:σ[j]?=some (some v):=by
     cases z:σ[j]? with
     | none=>rw [z] at e2';cases e2'
     | some y=>rw [z] at e2';exact congrArg some e2'
    obtain⟨a1,a2,a3⟩:=L.out e1 q
    obtain⟨mo,_,hl⟩:=I2.loc
    obtain⟨u,r,lk⟩:=hl j x v a1 e4 (.inr a3)
    refine⟨u,r,?_⟩
    rcases lk with ⟨k,_⟩ | ⟨k,c,e,o,ho,hd⟩
    ·rcases a3 with z | z
     ·rw [z] at k;cases k
     ·rw [z] at k;cases k
    ·obtain⟨k',hk',e'⟩:=jI (env:=X.env) a2
     refine .inr ⟨?_,c,iG (PySem.mem_of_lookup a2) e,o,kp _ _ ho,hd⟩
     rcases hk' with z | z
     ·subst z;exact .inl e'
     ·subst z;exact .inr e'
 ·obtain⟨v,o,ho,hd⟩:=I2.cell x c (b6 e)
  exact⟨v,o,kp _ _ ho,hd⟩
 ·unfold emb
  rw [List.length_map]
  exact L.len.symm
variable {tg iter elt:Expr}{ifs:List Expr}{pos:Pos}{g:TG}{tt:TT}{te:TE}
theorem jL (L:bf X scope N ix) (hc:X.calm=true) (hg:∀C s0 H0 fp,PG (aA X scope N C s0 H0 fp) tg g) (ht:∀C s0 H0 fp,PTs (aA X scope N C s0 H0 fp) ifs tt) (he:∀C s0 H0 fp,PE (aA X scope N C s0 H0 fp) elt te)
  {pins:List (Addr×Obj)}{σ:St}{H2:Hp}{s2:Shared}{it:Addr}{fp:List Addr}{tn:Nat->Heap->Prop}{J:It}{fin:List V->Hp->Prop}{E:Value->Shared->Prop}{RR:Value->Addr->Result->Shared->Prop}
  (I2:Inv X pins σ H2 s2) (T:Turn X.prog X.w X.K tg J fp it tn) (st:tn 0 s2.heap) (f2:∀b∈fp,br X pins H2 b) (hW:LcW J g tt te (emb ix σ) fin H2)
  (hRR:∀D C s' m ys H',s'.heap.Ns C m->s'.os=s2.os->D≠C->br X pins (upd H' D (.lst ys)) C->(∀h',Heap.SameBut C s'.heap h'->Inv X pins σ (upd H' D (.lst ys)) { s' with heap:=h' })->H' D=none->fin ys H'->RR (.ref D) C (.ok .next) s') :
  wpAny (model X.prog X.w) X.A (newList []) (fun acc s3=>wpAny (model X.prog X.w) X.A (newFunctionEnv scope X.env.globals (bp X.env scope.names []) [] X.env.qual none .none (some X.env)) (fun cenv s4 =>
   codeAny (model X.prog X.w) X.A (.compStart (.ListComp elt [⟨tg,iter,ifs,0⟩] scope pos) 0 (.ref it) acc { cenv with scope:=relabel scope X.env }) (RR acc cenv.locals) s4) E s3) E s2:=by
 obtain⟨W,⟨m0,w0⟩,turn⟩:=hW
 have hb2:∀b∈fp,b < s2.heap.objs.size:=fun b hb=>by
  obtain⟨o,e,_⟩:=T.obj _ _ st b hb
  exact Heap.lt_size e
 refine wpAny_newObj_type (wpAny_newFunctionEnv L.nocell (by intro y hy;simp at hy) (fun h1 hns hsb=>?_) L.kind)
 dsimp only at hns hsb ⊢
 generalize hG:s2.heap.push { cls:=.type "list",dict:=none,data:=.seq ([]:List Value).toArray }=G at hns hsb ⊢
 have hGs:G.objs.size=s2.heap.objs.size + 1:=by rw [<- hG,Heap.size_push]
 generalize hDe:s2.heap.objs.size=D at hGs hb2
 generalize hCe:G.objs.size=C at hGs hns hsb ⊢
 have hDC:D≠C:=by omega
 have nq:∀b:Nat,b < s2.heap.objs.size->b≠C/\b≠D:=fun b h=>⟨by omega,by omega⟩
 have nq2:∀b∈fp,b≠C/\b≠D:=fun b hb=>nq b (by rw [hDe];exact hb2 b hb)
 have kG:∀b o,s2.heap.get? b=some o->G.get? b=some o:=fun b o e=>by rw [<- hG];exact Heap.get?_push_of_some _ e
 have kp:∀b o,s2.heap.get? b=some o->h1.get? b=some o:=fun b o e=>hsb.extBut b o (nq b (Heap.lt_size e)).1 (Heap.get?_push_of_some _ (kG b o e))
 have oD:∃n,h1.get? D=some { cls:=.type "list",data:=.seq ([]:List Value).toArray n }:=⟨_,hsb.extBut _ _ hDC (Heap.get?_push_of_some _ (by rw [<- hG,<- hDe];exact Heap.get?_push_size _ rfl))⟩
 have I4:=jP L (tk:=s2.toks + ([]:List (Str×Value)).length) I2 (C:=C) (by omega) f2 (by rw [hDe];exact hb2) kp hns
 have st4:tn 0 h1:=T.keep _ _ _ st fun b _ o e=>kp b o e
 have hDf:D∉(aA X scope N C s2 H2 fp).fs:=fun z=>by
  have z':D∈frs X.stack:=z
  rcases List.mem_cons.mp (I2.stkSub D z') with q | q
  ·exact (nq _ I2.lt).2 q.symm
  ·exact I2.nofs (a:=D) (by omega) q
 have cellD:∀x c,(aA X scope N C s2 H2 fp).env.cells.lookup x=some c->c≠D:=fun x c e z=>by
  obtain⟨v,o,ho,_⟩:=I2.cell x c (b6 e)
  exact (nq c (Heap.lt_size ho)).2 z
 have stat:∀{H':Hp}{pl:List (Addr×Obj)},(∀b∈fp,H' b=none)->(∀p∈pl,p.1=D)->∀b∈fp,br (aA X scope N C s2 H2 fp) pl H' b:=fun {H' pl} hn hp b hb=>by
  have hlt:=hb2 b hb
  refine⟨hn b hb,(nq2 b hb).1,fun z=>?_,.inl hb,fun x c e=>(f2 b hb).2.2.2.2.1 x c (b6 e),fun p hq z=>?_⟩
  ·exact (List.mem_cons.mp (I2.stkSub b z)).elim (f2 b hb).2.1 (f2 b hb).2.2.1
  ·have hq':p∈pl:=by simpa [aA] using hq
   exact (nq2 b hb).2 (z.symm.trans (hp p hq'))
 have pinD:∀{pl:List (Addr×Obj)}{σ':St}{H':Hp}{s':Shared}{o:Obj},Inv (aA X scope N C s2 H2 fp) pl σ' H' s'->s'.heap.get? D=some o->H' D=none->(∀v,o.data≠.cell v)->Inv (aA X scope N C s2 H2 fp) [(D,o)] σ' H' s' :=
  fun {pl σ' H' s' o} I' ho hn hd=>I'.pins_of fun p hp=>by
   have e:p=(D,o):=by simpa using hp
   subst e
   exact⟨ho,hn,hDC,hDf,hd⟩
 have loop:∀s4:Shared,s4={ s2 with heap:=h1,toks:=s2.toks + ([]:List (Str×Value)).length } ->
   codeAny (model X.prog X.w) X.A (.compLoop (.ListComp elt [⟨tg,iter,ifs,0⟩] scope pos) 0 (.ref it) (.ref D) (aA X scope N C s2 H2 fp).env) (RR (.ref D) C) s4:=by
  rintro s4 rfl
  refine nU (fun n s'=>∃i σ' H' ys its k,Inv (aA X scope N C s2 H2 fp) [(D,{ cls:=.type "list",data:=.seq its.toArray k })] σ' H' s'/\tn i s'.heap/\(∀b∈fp,H' b=none)/\am ys its/\W i n ys σ' H') ?_ m0 ?_
  ·rintro n s' ⟨i,σ',H',ys,its,k,I',st',fr',rv,w'⟩
   have hD':=I'.pin _ (List.mem_append_right _ List.mem_cons_self)
   rcases turn i n ys σ' H' w' with ⟨stop,hz,qf⟩ | ⟨go,hz,Nx,hN,step⟩
   ·refine thn (T.done (aA X scope N C s2 H2 fp) rfl rfl rfl hc i _ s' σ' H' _ I' (stat fr' (by simp)) st' stop) fun r s5 ⟨hr,I5⟩=>?_
    subst hr
    have hD5:=I5.pin _ (List.mem_append_right _ List.mem_cons_self)
    obtain⟨m5,hn5,_⟩:=I5.loc
    refine hRR D C s5 m5 ys H' hn5 I5.os hDC (I2.fpOk (by omega) (by rw [ag (Ne.symm hDC)];exact I5.free)) (fun h' hs'=>?_) hD5.2.1 qf
    exact pd I2 f2 I5 (by omega) (by omega) hDC hD5.2.1 hD5.1 rv hz fun b o hb e=>hs'.extBut b o hb e
   ·refine thn (T.item (aA X scope N C s2 H2 fp) rfl rfl rfl hc i _ s' σ' H' _ I' (stat fr' (by simp)) st' go) fun r s5 ⟨u,hr,h5⟩=>?_
    subst hr
    refine thn h5 fun _ s6 ⟨x,H6,I6,r6,y6,st6,fr6⟩=>?_
    have I6':=I6.pinned (stat fr6 (by simp)) (T.obj _ _ st6)
    refine thn (hg C s2 H2 fp _ s6 σ' H6 x u _ I6' r6 (step x H6 y6)) fun _ s7 ⟨σ7,H7,I7,q7⟩=>?_
    refine thn (ht C s2 H2 fp _ s7 σ7 H7 _ I7 q7) fun ok s8 ⟨H8,I8,q8⟩=>?_
    have back:∀{H9:Hp}{s9:Shared},Inv (aA X scope N C s2 H2 fp) ([(D,{ cls:=.type "list",data:=.seq its.toArray k })]++dk fp s6.heap) σ7 H9 s9->tn (i + 1) s9.heap/\∀b∈fp,H9 b=none:=fun {H9 s9} I9=>by
     refine⟨T.keep _ _ _ st6 fun b hb o e=>(I9.pin (b,o) (List.mem_append_right _ (List.mem_append_right _ (c8 hb e)))).1,fun b hb=>?_⟩
     obtain⟨o,e,d⟩:=T.obj _ _ st6 b hb
     exact (I9.pin (b,o) (List.mem_append_right _ (List.mem_append_right _ (c8 hb e)))).2.1
    cases ok with
    | false =>
     rw [if_neg Bool.false_ne_true] at q8 ⊢
     obtain⟨m',hm,w8⟩:=hN _ _ _ q8
     obtain⟨st8,fr8⟩:=back I8
     exact⟨m',hm,i + 1,σ7,H8,ys,its,k,I8.unpinned,st8,fr8,rv,w8⟩
    | true =>
     rw [if_pos rfl] at q8 ⊢
     refine thn (he C s2 H2 fp _ s8 σ7 H8 _ I8 q8) fun y s9 ⟨v,H9,I9,r9,q9⟩=>?_
     have hD9:=I9.pin _ (List.mem_append_right _ (List.mem_append_left _ List.mem_cons_self))
     obtain⟨st9,fr9⟩:=back I9
     refine wpAny_list_append_plain (hsz:=by have:=rv.length;rw [List.size_toArray];omega) ⟨k,hD9.1⟩ fun h' hl' hs'=>?_
     obtain⟨m',hm,w9⟩:=hN _ _ _ q9
     obtain⟨k',ho'⟩:=hl'
     have I10:Inv (aA X scope N C s2 H2 fp) [] σ7 H9 { s9 with heap:=h' }:=(I9.pins_of (pins':=[]) fun p hp=>absurd hp (by simp)).turned (t':=s9.toks) (it:=D) (fun b o hb e=>hs'.extBut b o hb e) hD9.2.1 hDC (.inr (by show s2.heap.objs.size<=D;omega)) cellD (fun p hp=>absurd hp (by simp [aA]))
     refine⟨m',hm,i + 1,σ7,H9,ys++[v],its++[y],k',pinD I10 (by rw [ho'];simp) hD9.2.1 (fun v z=>by cases z),?_,fr9,rv.append (.cons r9 .nil),w9⟩
     exact T.keep _ _ _ st9 fun b hb o e=>hs'.extBut b o (nq2 b hb).2 e
  ·obtain⟨n,e⟩:=oD
   exact⟨0,emb ix σ,H2,[],[],n,pinD I4 e (I2.hok.fresh (by omega)) (fun v z=>by cases z),st4,fun b hb=>(f2 b hb).1,.nil,w0⟩
 have q:=loop _ rfl
 exact codeAny_compStart_list q (T.self _ 0 _ _ _ st4 q)
end
theorem gK {ss:List Str}:∀{us:List Value},am (ss.map V.str) us->StrsAre us ss:=by
 induction ss with
 | nil=>intro us r;rw [List.map_nil] at r;cases r;exact .nil
 | cons n ns ih =>
  intro us r
  rw [List.map_cons] at r
  cases r with
  | cons r1 r2 =>
   obtain⟨t,e⟩:=r1
   subst e
   exact .cons n t (ih r2)
theorem ic:∀{vs:List Value}{ss:List Str},StrsAre vs ss->am (ss.map V.str) vs
 | _,_,.nil=>.nil
 | _,_,.cons n t h=>.cons ⟨t,rfl⟩ (ic h)
section
variable {X:Cx}
variable {scope:Scope}{N:List Str}{ix:List (Option Nat)}{tg iter elt:Expr}{ifs:List Expr}{pos:Pos}{g:TG}{tt:TT}{te:TE}{wi:TI}
theorem bb (L:bf X scope N ix) (hc:X.calm=true) (hi:PI X tg iter wi) (hg:∀C s0 H0 fp,PG (aA X scope N C s0 H0 fp) tg g) (ht:∀C s0 H0 fp,PTs (aA X scope N C s0 H0 fp) ifs tt) (he:∀C s0 H0 fp,PE (aA X scope N C s0 H0 fp) elt te)
  (hs:∀x,foldedSetIterable iter X.env x=pure x:=by intro _;rfl):PE X (.ListComp elt [⟨tg,iter,ifs,0⟩] scope pos) (tLc wi g tt te ix):=by
 intro pins s σ H Q I h
 rw [eval_ListComp]
 refine wpAny_comprehension_free (use:=none) rfl hs (L.clos I.ok) L.kind L.locals (thn (hi pins s σ H _ I h) fun v s1 h1=>thn h1 fun itv s2 h2=>?_)
 obtain⟨it,fp,tn,J,H2,rfl,I2,T,st2,f2,hW⟩:=h2
 refine jL (RR:=fun acc C=>compPost (model X.prog X.w) X.A X.xe none (EP X pins σ Q) acc C) L hc hg ht he I2 T st2 f2 hW ?_
 intro D C s' m ys H' hn ho hDC hC hI hD fin
 exact⟨m,hn,fun h' hs'=>⟨.ref D,_,hI h' hs',rfl,fin D hD⟩⟩
noncomputable def oW (i:Nat) (wi:TI) (g:TG) (tt:TT) (te:TE) (ix:List (Option Nat)):TS:=fun D σ H=>wi σ H fun J H1=>LcW J g tt te (emb ix σ) (fun ys H'=>∀p,H' p=none->D.nx (σ.set i (some (.ref p))) (upd H' p (.lst ys))) H1
theorem dG {i:Nat}{y:Str}{py spos:Pos} (hN:X.N.Nodup) (hi':X.N[i]?=some y) (hx:Loc X.env.scope y) (L:bf X scope N ix) (hc:X.calm=true) (hi:PI X tg iter wi) (hg:∀C s0 H0 fp,PG (aA X scope N C s0 H0 fp) tg g)
  (ht:∀C s0 H0 fp,PTs (aA X scope N C s0 H0 fp) ifs tt) (he:∀C s0 H0 fp,PE (aA X scope N C s0 H0 fp) elt te)
  (hsw:swapsWith (.ListComp elt [⟨tg,iter,ifs,0⟩] scope pos) (some (.Name y py)) spos.line X.env=pure true:=by rfl) (hs:∀x,foldedSetIterable iter X.env x=pure x:=by intro _;rfl)
  (hf:X.fn y=true\/X.env.scope.names.lookup y=some .local:=by first | exact .inl rfl | exact .inr rfl | assumption) :
  PS X (.Assign [.Name y py] (.ListComp elt [⟨tg,iter,ifs,0⟩] scope pos) spos) (oW i wi g tt te ix):=by
 intro pins s σ H D I h
 rw [exec_Assign_Name_used _ _ _ _ hsw]
 refine wpAny_bind (wpAny_standAt (wpAny_bind ?_))
 show wpAny _ X.A (do let _ <- comprehension (.ListComp elt [⟨tg,iter,ifs,0⟩] scope pos) scope X.env _ (newList []) false (eval iter X.env) (some (assign (.Name y py) X.env))) _ _ s
 refine wpAny_bind (thn (wpAny_comprehension_free (use:=some (assign (.Name y py) X.env)) (Q:=fun _ s'=>SP X pins D .next s') rfl hs (L.clos I.ok) L.kind L.locals
  (thn (hi pins s σ H _ I h) fun v s1 h1=>thn h1 fun itv s2 h2=>?_)) fun _ s' hq=>wpAny_pure (wpAny_pure hq))
 obtain⟨it,fp,tn,J,H2,rfl,I2,T,st2,f2,hW⟩:=h2
 refine jL (RR:=fun acc C=>compPost (model X.prog X.w) X.A X.xe (some (assign (.Name y py) X.env)) (fun _ s'=>SP X pins D .next s') acc C) L hc hg ht he I2 T st2 f2 hW ?_
 intro Da C s' m ys H' hn ho hDC hC hI hD fin
 have I':=hI s'.heap (Heap.SameBut.refl _ _)
 show wpAny _ X.A (assign (.Name y py) X.env (.ref Da)) _ _ s'
 refine wpAny_assign_Name (il (v:=.ref Da) I' hN hi' hx rfl (fun s'' I'' ch=>?_) hf)
 obtain⟨a,hsa,hwa⟩:=ch
 obtain⟨c1,c2,c3,c4,c5,c6⟩:=hC
 have hCa:C≠a:=by
  rcases hwa with z | z
  ·rw [z];exact c2
  ·exact fun w=>c5 y a z w.symm
 refine⟨m,hn.sameBut hsa hCa,fun h' hs'=>⟨_,_,I''.turned (t':=s''.toks) (it:=C) (fun b o hb e=>hs'.extBut b o hb e) c1 c2 c4 c5 c6,fin Da hD⟩⟩
end
mutual
inductive DV (H:Hp):V->PyData->Prop
 | non:DV H .non .none
 | bl (b:Bool):DV H (.bl b) (.bool b)
 | int (i:Int):DV H (.int i) (.int i)
 | str (x:Str):DV H (.str x) (.str x)
 | tup {a:Addr}{xs:List V}{ds:List PyData}:H a=some (.tup xs)->DVs H xs ds->DV H (.ref a) (.tuple ds)
 | lst {a:Addr}{xs:List V}{ds:List PyData}:H a=some (.lst xs)->DVs H xs ds->DV H (.ref a) (.list ds)
inductive DVs (H:Hp):List V->List PyData->Prop
 | nil:DVs H [] []
 | cons {x:V}{d:PyData}{xs:List V}{ds:List PyData}:DV H x d->DVs H xs ds->DVs H (x::xs) (d::ds)
end
section
variable {P:Program}{w:World}{H:Hp}{h:Heap}
mutual
theorem DV.reads (ok:HOk P w H h):∀{x:V}{d:PyData}{u:Value},DV H x d->RelV x u->∃as,Reads h u d as
 | _,_,u,.non,r=>by cases (show u=Value.none from r);exact⟨_,Reads.none⟩
 | _,_,u,.bl b,r=>by cases (show u=Value.bool b from r);exact⟨_,Reads.bool b⟩
 | _,_,u,.int i,r=>by obtain⟨t,e⟩:=(show ∃t,u=Value.int i t from r);cases e;exact⟨_,Reads.int i t⟩
 | _,_,u,.str x,r=>by obtain⟨t,e⟩:=(show ∃t,u=Value.str x t from r);cases e;exact⟨_,Reads.str x t⟩
 | _,_,u,.tup (a:=a) (xs:=xs) e q,r=>by
  cases (show u=Value.ref a from r)
  obtain⟨_,its,rv,o,ho,hc,n,hd⟩:=(show aC P w H h a (.tup xs) from ok a _ e)
  obtain⟨as,z⟩:=DVs.reads ok q rv
  exact⟨as,Reads.tuple ho hc hd (by simpa using z)⟩
 | _,_,u,.lst (a:=a) (xs:=xs) e q,r=>by
  cases (show u=Value.ref a from r)
  obtain⟨_,its,n,rv,ho⟩:=(show aC P w H h a (.lst xs) from ok a _ e)
  obtain⟨as,z⟩:=DVs.reads ok q rv
  exact⟨_,Reads.list ho rfl rfl (by simpa using z)⟩
theorem DVs.reads (ok:HOk P w H h):∀{xs:List V}{ds:List PyData}{us:List Value},DVs H xs ds->am xs us->∃as,ReadsAll h us ds as
 | _,_,_,.nil,.nil=>⟨_,ReadsAll.nil⟩
 | _,_,_,.cons a b,.cons r rs=>by
  obtain⟨as,p⟩:=DV.reads ok a r
  obtain⟨bs,q⟩:=DVs.reads ok b rs
  exact⟨_,ReadsAll.cons p q⟩
end
end
theorem DVs.strs {H:Hp}:∀ss:List Str,DVs H (ss.map V.str) (ss.map PyData.str)
 | []=>.nil
 | x::r=>.cons (.str x) (DVs.strs r)
section
variable {X:Cx}
open SeqAt in
theorem pP {k:Nat} (hr:aK k X.A):OpR X (compareOp .NotEq) (fun x y H Q=>∃d e,DV H x d/\DV H y e/\shaped d=true/\shaped e=true/\Q (.bl (!PyData.eqv d e)) H):=by
 intro pins s σ H x y v u Q I rx ry h
 obtain⟨d,e,dx,dy,sd,se,q⟩:=h
 obtain⟨as,r1⟩:=dx.reads I.hok rx
 obtain⟨bs,r2⟩:=dy.reads I.hok ry
 exact ne_dataH r1 r2 sd se hr.units ⟨.bl (!PyData.eqv d e),H,I,rfl,q⟩
theorem dZ {k:Nat} (hr:aK k X.A):bj X (.builtin "repr") (fun xs H Q=>∃a d,xs=[.ref a]/\DV H (.ref a) d/\d.showable=true/\d.hasDict=false/\d.depth<=40/\d.shown.length<=sizeLine/\Q (.str d.shown) H):=by
 intro pins s σ H xs us Q I r h
 obtain⟨a,d,rfl,dx,h1,h2,h3,h4,q⟩:=h
 obtain⟨u,rfl,rx⟩:=vals1 r
 cases rx
 obtain⟨as,r1⟩:=dx.reads I.hok (show RelV (.ref a) (Value.ref a) from rfl)
 exact repr_of_reads' r1 h1 (fun z=>by rw [h2] at z;cases z) hr.gd (by have:=hr.units;omega) (fun _ _ e=>e) (fun h' t tk kp=>⟨.str d.shown,H,I.kept kp,⟨_,rfl⟩,q⟩) h4
theorem lH (bs:List Bool):((List.range bs.length).all fun i=>(bs[i]?).getD true)=bs.all id:=by
 rw [Bool.eq_iff_iff,List.all_eq_true,List.all_eq_true]
 constructor
 ·intro h b hb
  obtain⟨i,hi,e⟩:=List.mem_iff_getElem.mp hb
  have:=h i (List.mem_range.mpr hi)
  rw [List.getElem?_eq_getElem hi,e] at this
  simpa using this
 ·intro h i hi
  have hi:=List.mem_range.mp hi
  rw [List.getElem?_eq_getElem hi]
  simpa using h _ (List.getElem_mem hi)
theorem ef (hc:X.calm=true):bj X (.builtin "all") (fun xs H Q=>∃(p:Addr) (bs:List Bool),xs=[.ref p]/\SqL X.K H p (bs.map V.bl)/\Q (.bl (bs.all id)) H):=by
 intro pins s σ H xs us Q I r h
 obtain⟨p,bs,rfl,hq,q⟩:=h
 obtain⟨u,rfl,rx⟩:=vals1 r
 cases rx
 obtain⟨its,r',pl,hz⟩:=I.list hq
 have hlt:p < s.heap.objs.size:=by obtain⟨o,n,e,_⟩:=pl;exact Heap.lt_size e
 have hlen:=r'.length
 rw [List.length_map] at hlen
 refine call_all_walk (wpAny_pyIter_list pl.isList ?_)
 refine⟨s.heap.objs.size,[s.heap.objs.size,p],[s.heap.objs.size],its.toArray.size,_,_,fun i=>(bs[i]?).getD true,rfl,Walks.list (A:=X.A.in1) (I.ok.hd hc) _ p (Nat.ne_of_lt hlt) its.toArray,
  ⟨⟨_,Heap.get?_push_size _ rfl,rfl,rfl⟩,pl.isList.push _⟩,fun i v s' Q' E' hP hQ=>?_,fun h' tk hk=>?_⟩
 ·have hP':its[i]?=some v:=by simpa using hP
  have hb:∃b,bs[i]?=some b/\v=Value.bool b:=by
   have hi:i < bs.length:=by rw [hlen];exact (List.getElem?_eq_some_iff.mp hP').1
   have e1:(bs.map V.bl)[i]?=some (V.bl bs[i]):=by rw [List.getElem?_map,List.getElem?_eq_getElem hi];rfl
   obtain⟨w',e2,rw'⟩:=r'.get e1
   rw [hP'] at e2
   cases e2
   exact⟨bs[i],List.getElem?_eq_getElem hi,rw'⟩
  obtain⟨b,e,rfl⟩:=hb
  simp only [e,Option.getD_some] at hQ
  exact wpAny_truthy_bool hQ
 ·have e:((List.range its.toArray.size).all fun i=>(bs[i]?).getD true)=bs.all id:=by
   rw [List.size_toArray,<- hlen];exact lH bs
  rw [e]
  refine⟨.bl (bs.all id),H,I.kept (t':=tk) fun b x e=>hk b x (fun hm=>?_) (Heap.get?_push_of_some _ e),rfl,q⟩
  rw [List.mem_singleton.mp hm] at e
  exact Nat.lt_irrefl _ (Heap.lt_size e)
theorem cu {T:String}:bj X (.builtin "isinstance") (fun xs H Q=>∃x t b,xs=[x,.ty T]/\bD X.K H x t/\PySem.W.kitOne X.K t (.type T)=some b/\Q (.bl b) H):=by
 intro pins s σ H xs us Q I r h
 obtain⟨x,t,b,rfl,ty,e,q⟩:=h
 obtain⟨u,w',rfl,rx,ry⟩:=vals2 r
 cases (show w'=Value.type T from ry)
 exact lV I rx ty e fun tk=>⟨.bl b,H,I.tok tk,rfl,q⟩
theorem hE:OpR X (compareOp .LtE) (fun x y H Q=>∃i j,x=.str i/\y=.str j/\Q (.bl (!decide (j.cps.toList < i.cps.toList))) H):=by
 intro pins s σ H x y v u Q I rx ry h
 obtain⟨i,j,rfl,rfl,q⟩:=h
 obtain⟨t,rfl⟩:=rx
 obtain⟨t',rfl⟩:=ry
 exact PySem.P.le_str ⟨.bl (!decide (j.cps.toList < i.cps.toList)),H,I,rfl,q⟩
theorem iY:MtR X "str.join" (fun x xs H Q=>∃(z:Str) (p:Addr) (ss:List Str),x=.str z/\xs=[.ref p]/\SqL X.K H p (ss.map V.str)/\(ss.map (·.length)).sum + ss.length * z.length<=16777216/\Q (.str (Txt.join z ss)) H):=by
 intro pins s σ H x xs v us Q I rx rs h
 obtain⟨z,p,ss,rfl,rfl,hq,hz,q⟩:=h
 obtain⟨t,rfl⟩:=rx
 obtain⟨u,rfl,ru⟩:=vals1 rs
 cases ru
 obtain⟨its,r',pl,_⟩:=I.list hq
 exact join_list pl.isList (gK r') hz fun t' k=>⟨.str (Txt.join z ss),H,I.tok k,⟨_,rfl⟩,q⟩
theorem kX:bj X (.builtin "sorted") (fun xs H Q=>∃(p:Addr) (ss:List Str),xs=[.ref p]/\SqL X.K H p (ss.map V.str)/\ss.length < 64/\∀(ss':List Str) (q:Addr),ss'.Perm ss->sortedS ss'=true->H q=none->Q (.ref q) (upd H q (.lst (ss'.map V.str)))):=by
 intro pins s σ H xs us Q I r h
 obtain⟨p,ss,rfl,hq,h64,q⟩:=h
 obtain⟨u,rfl,rx⟩:=vals1 r
 cases rx
 obtain⟨its,r',pl,hz⟩:=I.list hq
 have hlen:=r'.length
 rw [List.length_map] at hlen
 refine sorted_strs pl.isList (gK r') (by omega) fun out ss' a1 a2 a3=>?_
 obtain⟨e,he⟩:=sortedAll_at s.heap its out
 have hv:am (ss'.map V.str) out.toList:=ic a1
 have hfr:H (s.heap.objs.size + 1)=none:=I.hok.fresh (Nat.le_succ _)
 refine⟨.ref (s.heap.objs.size + 1),_,I.laid (t':=s.toks) (o:=.lst (ss'.map V.str)) (fun b o z=>sortedAll_old z) (Nat.le_succ _) ⟨?_,out.toList,e,hv,?_⟩,rfl,q ss' _ a2 a3 hfr⟩
 ·rw [List.length_map,a2.length_eq,sizeLine_eq];omega
 ·simpa [seqObj] using he
end
end L2
set_option maxHeartbeats 4000000
namespace L2
open PySem PySem.W PyProof.Rows
noncomputable abbrev gp (p:Array Nat) (i:Nat):Nat:=p.getD i 0
structure Ord (N:Nat) (lt:Nat->Nat->Bool):Prop where
 tr:∀i j k,lt i j=true->lt j k=true->lt i k=true
 irr:∀i,lt i i=false
 tot:∀i j,i < N->j < N->i≠j->lt i j=true\/lt j i=true
noncomputable def Pm (N:Nat) (p:Array Nat):Prop:=p.Perm (List.toArray (List.range N))
theorem Pm.size {N:Nat}{p:Array Nat} (h:Pm N p):p.size=N:=by
 have:=Array.Perm.size_eq h
 simpa using this
theorem dU {p:Array Nat}{i:Nat} (h:i < p.size):gp p i=p[i]:=by simp [gp,Array.getD,h]
theorem eB {p q:Array Nat}{i j:Nat} (h:p[i]?=q[j]?):gp p i=gp q j:=by simp [gp,Array.getD_eq_getD_getElem?,h]
theorem Pm.lt {N:Nat}{p:Array Nat} (h:Pm N p) {i:Nat} (hi:i < N):gp p i < N:=by
 have hs:i < p.size:=by rw [h.size];exact hi
 rw [dU hs]
 have hm:p[i]∈(List.toArray (List.range N)):=h.mem_iff.mp (Array.getElem_mem hs)
 simpa using hm
theorem Pm.nd {N:Nat}{p:Array Nat} (h:Pm N p):p.toList.Nodup:=by
 have hp:p.toList.Perm (List.range N):=by simpa using Array.perm_iff_toList_perm.mp h
 exact hp.nodup_iff.mpr List.nodup_range
theorem Pm.inj {N:Nat}{p:Array Nat} (h:Pm N p) {i j:Nat} (hi:i < N) (hj:j < N) (hij:i≠j):gp p i≠gp p j:=by
 have hsi:i < p.size:=by rw [h.size];exact hi
 have hsj:j < p.size:=by rw [h.size];exact hj
 rw [dU hsi,dU hsj]
 intro e
 have nd:=h.nd
 rcases Nat.lt_or_gt_of_ne hij with z | z
 ·exact List.pairwise_iff_getElem.mp nd i j (by simpa using hsi) (by simpa using hsj) z (by simpa using e)
 ·exact List.pairwise_iff_getElem.mp nd j i (by simpa using hsj) (by simpa using hsi) z (by simpa using e.symm)
section
variable {N:Nat}{lt:Nat->Nat->Bool}{cmp:Nat->Nat->(Bool->Shared->Prop)->Shared->Prop}{s:Shared}
noncomputable def Asc (lt:Nat->Nat->Bool) (p:Array Nat) (b:Nat):Prop:=∀i j,i < j->j < b->lt (gp p i) (gp p j)=true
noncomputable def Dsc (lt:Nat->Nat->Bool) (p:Array Nat) (b:Nat):Prop:=∀i j,i < j->j < b->lt (gp p j) (gp p i)=true
theorem Asc.more (O:Ord N lt) {p:Array Nat}{n:Nat} (h:Asc lt p n) (h1:1<=n) (e:lt (gp p (n - 1)) (gp p n)=true):Asc lt p (n + 1):=fun i j hij hj=>by
 by_cases q:j < n
 ·exact h i j hij q
 ·have:j=n:=by omega
  subst this
  by_cases z:i=j - 1
  ·rw [z];exact e
  ·exact O.tr _ _ _ (h i (j - 1) (by omega) (by omega)) e
theorem Dsc.more (O:Ord N lt) {p:Array Nat}{n:Nat} (h:Dsc lt p n) (h1:1<=n) (e:lt (gp p n) (gp p (n - 1))=true):Dsc lt p (n + 1):=fun i j hij hj=>by
 by_cases q:j < n
 ·exact h i j hij q
 ·have:j=n:=by omega
  subst this
  by_cases z:i=j - 1
  ·rw [z];exact e
  ·exact O.tr _ _ _ e (h i (j - 1) (by omega) (by omega))
theorem Ord.other (O:Ord N lt) {p:Array Nat} (hp:Pm N p) {i j:Nat} (hi:i < N) (hj:j < N) (hij:i≠j) (e:lt (gp p i) (gp p j)≠true):lt (gp p j) (gp p i)=true :=
 (O.tot _ _ (hp.lt hi) (hp.lt hj) (hp.inj hi hj hij)).resolve_left e
variable (O:Ord N lt) (hc:∀(i j:Nat) (C:Bool->Shared->Prop),i < N->j < N->i≠j->C (lt i j) s->cmp i j C s)
include O hc
theorem fQ {p:Array Nat} (hp:Pm N p) {Q:Nat->Shared->Prop}:∀(f n:Nat),1<=n->n + f<=N->Asc lt p n->(∀m,n<=m->m<=n + f->Asc lt p m->(m=n + f\/lt (gp p m) (gp p (m - 1))=true)->Q m s)->(kas_asc p f n).kasWp cmp Q s
 | 0,n,h1,hn,ha,k=>k n (Nat.le_refl _) (Nat.le_refl _) ha (.inl rfl)
 | f + 1,n,h1,hn,ha,k=>by
  unfold kas_asc
  refine hc _ _ _ (hp.lt (by omega)) (hp.lt (by omega)) (hp.inj (by omega) (by omega) (by omega)) ?_
  by_cases e:lt (gp p n) (gp p (n - 1))=true
  ·show KasT.kasWp cmp (if lt (gp p n) (gp p (n - 1))=true then _ else _) Q s
   rw [if_pos e]
   exact k n (Nat.le_refl _) (by omega) ha (.inr e)
  ·show KasT.kasWp cmp (if lt (gp p n) (gp p (n - 1))=true then _ else _) Q s
   rw [if_neg e]
   exact fQ hp f (n + 1) (by omega) (by omega) (ha.more O h1 (O.other hp (by omega) (by omega) (by omega) e)) fun m a b c d=>k m (by omega) (by omega) c (d.imp (fun z=>by omega) id)
theorem jg {p:Array Nat} (hp:Pm N p) {Q:Array Nat×Nat×Nat->Shared->Prop}:∀(f n:Nat),1<=n->n + f<=N->Dsc lt p n->(∀m,n<=m->m<=n + f->Dsc lt p m->Q (p,m,0) s)->(kas_desc f p n 0).kasWp cmp Q s
 | 0,n,h1,hn,ha,k=>k n (Nat.le_refl _) (Nat.le_refl _) ha
 | f + 1,n,h1,hn,ha,k=>by
  unfold kas_desc
  refine hc _ _ _ (hp.lt (by omega)) (hp.lt (by omega)) (hp.inj (by omega) (by omega) (by omega)) ?_
  by_cases e:lt (gp p n) (gp p (n - 1))=true
  ·show KasT.kasWp cmp (if lt (gp p n) (gp p (n - 1))=true then _ else _) Q s
   rw [if_pos e,if_neg (by omega)]
   exact jg hp f (n + 1) (by omega) (by omega) (ha.more O h1 e) fun m a b c=>k m (by omega) (by omega) c
  ·show KasT.kasWp cmp (if lt (gp p n) (gp p (n - 1))=true then _ else _) Q s
   rw [if_neg e]
   refine hc _ _ _ (hp.lt (by omega)) (hp.lt (by omega)) (hp.inj (by omega) (by omega) (by omega)) ?_
   have e2:=O.other hp (show n < N by omega) (show n - 1 < N by omega) (by omega) e
   show KasT.kasWp cmp (if lt (gp p (n - 1)) (gp p n)=true then _ else _) Q s
   rw [if_pos e2]
   exact k n (Nat.le_refl _) (by omega) ha
theorem qa {p:Array Nat} (hp:Pm N p) {m:Nat} (hm:m<=N) (h:Dsc lt p m):Pm N (kas_rev p 0 m)/\Asc lt (kas_rev p 0 m) m:=by
 have hz:m<=p.size:=by rw [hp.size];exact hm
 refine⟨(mirror_perm p 0 m _).trans hp,fun i j hij hj=>?_⟩
 have g:∀k,k < m->gp (kas_rev p 0 m) k=gp p (0 + m - 1 - k):=fun k hk=>eB (by
  unfold kas_rev
  rw [getElem?_mirror_all hz,if_pos ⟨Nat.zero_le _,hk⟩])
 rw [g i (by omega),g j hj]
 exact h _ _ (by omega) (by omega)
theorem ny {p:Array Nat} (hp:Pm N p) (h2:2<=N) {Q:Nat×Array Nat->Shared->Prop} (h0:∀m q,1<=m->m<=N->Pm N q->Asc lt q m->Q (m,q) s):(kas_count N p).kasWp cmp Q s:=by
 unfold kas_count
 rw [KasT.kasWp_bind]
 refine fQ O hc hp (N - 1) 1 (Nat.le_refl _) (by omega) (fun i j a b=>by omega) fun m a b c d=>?_
 by_cases e:(m == N)=true
 ·rw [if_pos e]
  exact h0 m p a (by omega) hp c
 ·rw [if_neg e]
  have hm:m≠N:=fun z=>e (beq_iff_eq.mpr z)
  by_cases e1:m > 1
  ·rw [if_pos e1]
   refine hc _ _ _ (hp.lt (by omega)) (hp.lt (by omega)) (hp.inj (by omega) (by omega) (by omega)) ?_
   show KasT.kasWp cmp (if lt (gp p 0) (gp p (m - 1))=true then _ else _) Q s
   rw [if_pos (c 0 (m - 1) (by omega) (by omega))]
   exact h0 m p a (by omega) hp c
  ·rw [if_neg e1]
   have:m=1:=by omega
   subst this
   have e2:lt (gp p 1) (gp p (1 - 1))=true:=d.resolve_left (by omega)
   unfold kas_descPart
   rw [KasT.kasWp_bind]
   refine jg O hc hp (N - (1 + 1)) (1 + 1) (by omega) (by omega) (fun i j x y=>by
    have:i=0:=by omega
    have:j=1:=by omega
    subst i j
    exact e2) fun m' a' b' c'=>?_
   show KasT.kasWp cmp (if (0:Nat) > 0 then _ else _) Q s
   rw [if_neg (by omega)]
   show KasT.kasWp cmp (kas_tail3 m' N p) Q s
   unfold kas_tail3
   rw [KasT.kasWp_bind]
   obtain⟨r1,r2⟩:=qa O hc hp (show m'<=N by omega) c'
   exact fQ O hc r1 (N - m') m' (by omega) (by omega) r2 fun m'' x y z w=>h0 m'' _ (by omega) (by omega) r1 z
theorem fC {p:Array Nat} (hp:Pm N p) {k:Nat} (hk:k < N) (ha:Asc lt p k) {Q:Nat->Shared->Prop}:∀(f l r:Nat),l<=r->r<=k->r - l<=f->(∀i,i < l->lt (gp p i) (gp p k)=true)->(∀i,r<=i->i < k->lt (gp p k) (gp p i)=true) ->
  (∀l,l<=k->(∀i,i < l->lt (gp p i) (gp p k)=true)->(∀i,l<=i->i < k->lt (gp p k) (gp p i)=true)->Q l s)->(kas_place p k f l r).kasWp cmp Q s
 | 0,l,r,h1,h2,h3,hl,hr,q=>by
  have:l=r:=by omega
  subst this
  exact q l h2 hl hr
 | f + 1,l,r,h1,h2,h3,hl,hr,q=>by
  unfold kas_place
  by_cases e:l ≥ r
  ·rw [if_pos e]
   have:l=r:=by omega
   subst this
   exact q l h2 hl hr
  ·rw [if_neg e]
   refine hc _ _ _ (hp.lt hk) (hp.lt (by omega)) (hp.inj hk (by omega) (by omega)) ?_
   by_cases c:lt (gp p k) (gp p ((l + r) / 2))=true
   ·show KasT.kasWp cmp (if lt (gp p k) (gp p ((l + r) / 2))=true then _ else _) Q s
    rw [if_pos c]
    refine fC hp hk ha f l ((l + r) / 2) (by omega) (by omega) (by omega) hl (fun i a b=>?_) q
    by_cases z:i=(l + r) / 2
    ·rw [z];exact c
    ·exact O.tr _ _ _ c (ha _ _ (by omega) b)
   ·show KasT.kasWp cmp (if lt (gp p k) (gp p ((l + r) / 2))=true then _ else _) Q s
    rw [if_neg c]
    have c':=O.other hp hk (show (l + r) / 2 < N by omega) (by omega) c
    refine fC hp hk ha f ((l + r) / 2 + 1) r (by omega) h2 (by omega) (fun i a=>?_) hr q
    by_cases z:i=(l + r) / 2
    ·rw [z];exact c'
    ·exact O.tr _ _ _ (ha i ((l + r) / 2) (by omega) (by omega)) c'
theorem jt {Q:Array Nat->Shared->Prop} (h0:∀q,Pm N q->Asc lt q N->Q q s):∀(f:Nat) (p:Array Nat) (k:Nat),k + f=N->Pm N p->Asc lt p k->(kas_bin f p k).kasWp cmp Q s
 | 0,p,k,hk,hp,ha=>h0 p hp (by rw [<- hk];exact ha)
 | f + 1,p,k,hk,hp,ha=>by
  unfold kas_bin
  rw [KasT.kasWp_bind]
  refine fC O hc hp (show k < N by omega) ha k 0 k (by omega) (Nat.le_refl _) (by omega) (fun i z=>by omega) (fun i a b=>by omega) fun l hl h1 h2=>?_
  refine jt h0 f _ (k + 1) (by omega) ((bubble_perm p k _).trans hp) fun i j hij hj=>?_
  have hs:k < p.size:=by rw [hp.size];omega
  have g:∀i,gp (bubble p k (k - l)) i=if i=l then gp p k else if l < i/\i<=k then gp p (i - 1) else gp p i:=fun i=>by
   have e:=getElem?_bubble hs (k - l) (by omega) i
   have e1:k - (k - l)=l:=by omega
   rw [e1] at e
   by_cases z1:i=l
   ·rw [if_pos z1] at e ⊢;exact eB e
   ·rw [if_neg z1] at e ⊢
    by_cases z2:l < i/\i<=k
    ·rw [if_pos z2] at e ⊢;exact eB e
    ·rw [if_neg z2] at e ⊢;exact eB e
  rw [g i,g j]
  by_cases a1:i=l
  ·rw [if_pos a1,if_neg (by omega),if_pos (by omega)]
   exact h2 _ (by omega) (by omega)
  ·rw [if_neg a1]
   by_cases a2:l < i/\i<=k
   ·rw [if_pos a2,if_neg (by omega),if_pos (by omega)]
    exact ha _ _ (by omega) (by omega)
   ·rw [if_neg a2]
    by_cases b1:j=l
    ·rw [if_pos b1];exact h1 i (by omega)
    ·rw [if_neg b1]
     by_cases b2:l < j/\j<=k
     ·rw [if_pos b2]
      exact ha _ _ (by omega) (by omega)
     ·rw [if_neg b2]
      exact ha _ _ hij (by omega)
theorem nK (h2:2<=N) {Q:Array Nat->Shared->Prop} (h0:∀q,Pm N q->Asc lt q N->Q q s):(kas_sort N).kasWp cmp Q s:=by
 unfold kas_sort
 rw [KasT.kasWp_bind]
 refine ny O hc (Array.Perm.refl _) h2 fun m q a b hp ha=>?_
 show KasT.kasWp cmp (if m < N then _ else _) Q s
 by_cases e:m < N
 ·rw [if_pos e]
  have em:max m 1=m:=by omega
  show KasT.kasWp cmp (kas_bin (N - max m 1) q (max m 1)) Q s
  rw [em]
  exact jt O hc h0 (N - m) q m (by omega) hp ha
 ·rw [if_neg e]
  have:m=N:=by omega
  subst this
  exact h0 q hp ha
end
end L2
namespace L2
open PySem PySem.Spec PyProof.Rows PySem.W PySem.Calls
section
variable {prog:Program}{w:World}{A:Around}{E:Value->Shared->Prop}{s:Shared}
noncomputable def gf (prog:Program) (w:World) (A:Around) (vs:List Value) (lt:Nat->Nat->Bool) (s:Shared):Prop :=
 ∃κ:SortKind,(∀Q:SortKind->Shared->Prop,Q κ s->wpAny (model prog w) A (keyKind' vs.toArray) Q (fun _ _=>False) s) /\
  ∀(i j:Nat) (C:Bool->Shared->Prop),i < vs.length->j < vs.length->i≠j->C (lt i j) s->kas_ask prog w A κ vs i j C s
noncomputable def cX (vs:List Value) (p:Array Nat):List Value:=p.toList.map fun i=>vs.getD i Value.none
theorem lJ {lt:Nat->Nat->Bool}{a:Addr}{vs:List Value}{n:Nat}{P:PySem.Fin->Shared->Prop} (ho:s.heap.get? a=some (seqObj "list" vs.toArray n)) (h64:vs.length < 64) (O:Ord vs.length lt)
  (hk:2<=vs.length->∀s':Shared,(∀b o,b≠a->s.heap.get? b=some o->s'.heap.get? b=some o)->gf prog w A vs lt s')
  (h:∀p,Pm vs.length p->Asc lt p vs.length->P (.done (.ret .none)) { s with heap:=sortedHeap s.heap a vs (cX vs p).toArray }) :
  wpAny (model prog w) A (Builtin.«list.sort» ⟨[.ref a],[]⟩) P E s:=by
 rw [list_sort_plain]
 have hlt:a < s.heap.objs.size:=Heap.lt_size ho
 have hfit:vs.length<=sizeLine:=by rw [sizeLine_eq];omega
 refine wpAny_bind (listItems_at ho rfl (wpAny_bind (listUpdate_at ho rfl ?_ (by rw [List.size_toArray];exact hfit) (Nat.zero_le _))))
 obtain⟨e1,ho1⟩:∃e1,(s.heap.update a (Obj.mapSeq fun _=>(#[]:Array Value))).get? a=some (seqObj "list" #[] e1):=⟨_,get?_update_seq ho fun _=>#[]⟩
 refine wpAny_bind (seqEpoch_at ho1 rfl (wpAny_bind (wpAny_newTuple (wpAny_bind (wpAny_newList (wpAny_holding ?_) (Nat.zero_le _))) (by show vs.length<=_;exact hfit))))
 have ho2:(((s.heap.update a (Obj.mapSeq fun _=>(#[]:Array Value))).push (seqObj "tuple" vs.toArray 0)).push (seqObj "list" #[] 0)).get? a=some (seqObj "list" #[] e1):=Heap.get?_push_of_some _ (Heap.get?_push_of_some _ ho1)
 show wpAny (model prog w) A _ P E { s with heap:=((s.heap.update a (Obj.mapSeq fun _=>(#[]:Array Value))).push (seqObj "tuple" vs.toArray 0)).push (seqObj "list" #[] 0) }
 dsimp only
 by_cases h2:vs.toArray.size < 2
 ·rw [if_pos h2,if_pos h2]
  refine wpAny_bind (wpAny_pure ?_)
  rw [StateT.run_pure]
  refine wpAny_bind (wpAny_pure ?_)
  dsimp only
  have hz:((vs.toArray.zip vs.toArray).map (·.2))=(cX vs (List.toArray (List.range vs.length))).toArray:=by
   unfold cX
   apply Array.ext
   ·simp
   ·intro i h1 h2
    simp only [Array.size_map,Array.size_zip,List.size_toArray,Nat.min_self] at h1
    simp [h1]
  have es:vs.toArray.size=vs.length:=by simp
  refine wpAny_bind (seqEpoch_at ho2 rfl (wpAny_bind (listUpdate_at ho2 rfl ?_ (Nat.zero_le _) ?_)))
  ·simp only [bne_self_eq_false,Bool.false_eq_true,if_false]
   have q:=h (List.toArray (List.range vs.length)) (Array.Perm.refl _) (fun i j hij hj=>by omega)
   unfold sortedHeap at q
   rw [<- hz] at q
   exact wpAny_pure q
  ·show ((vs.toArray.zip vs.toArray).map (·.2)).size<=sizeLine + 1
   simp only [Array.size_map,Array.size_zip,List.size_toArray,Nat.min_self]
   omega
 ·have h2':2<=vs.length:=by rw [List.size_toArray] at h2;omega
  rw [if_neg h2,if_neg h2]
  obtain⟨κ,kd,ask⟩:=hk h2' { s with heap:=((s.heap.update a (Obj.mapSeq fun _=>(#[]:Array Value))).push (seqObj "tuple" vs.toArray 0)).push (seqObj "list" #[] 0) } fun b o hb e =>
   Heap.get?_push_of_some _ (Heap.get?_push_of_some _ (by rw [Heap.get?_update_ne _ _ _ _ hb];exact e))
  refine wpAny_bind (wpAny_mono (E:=fun _ _=>False) (Q:=fun k s'=>k=κ/\s'={ s with heap:=((s.heap.update a (Obj.mapSeq fun _=>(#[]:Array Value))).push (seqObj "tuple" vs.toArray 0)).push (seqObj "list" #[] 0) }) (kd _ ⟨rfl,rfl⟩) ?_ fun _ _ f=>f.elim)
  rintro k s' ⟨rfl,rfl⟩
  refine wpAny_bind (wpAny_mono (kat_run (ks:=vs) (G:=fun p s'=>(Pm vs.length p/\Asc lt p vs.length)/\s'={ s with heap:=((s.heap.update a (Obj.mapSeq fun _=>(#[]:Array Value))).push (seqObj "tuple" vs.toArray 0)).push (seqObj "list" #[] 0) })
   (Q:=fun st' s'=>∃p:Array Nat,arrOf st'=p.map (kas_item (vs.toArray.zip vs.toArray))/\failedOf st'=none/\(Pm vs.length p/\Asc lt p vs.length)/\s'={ s with heap:=((s.heap.update a (Obj.mapSeq fun _=>(#[]:Array Value))).push (seqObj "tuple" vs.toArray 0)).push (seqObj "list" #[] 0) })
   rfl h2' h64 (fun p st' s' _ a2 a3 a4=>⟨p,a2,a3,a4⟩) (nK O ask h2' fun q hq ha=>⟨⟨hq,ha⟩,rfl⟩)) ?_ fun _ _ e=>e)
  rintro⟨⟨⟩,st'⟩ s' ⟨p,har,hf,⟨hp,ha⟩,rfl⟩
  dsimp only
  rw [kat_snds rfl har]
  have hsz:(List.toArray (p.toList.map fun i=>vs.getD i Value.none)).size<=sizeLine + 1:=by
   rw [List.size_toArray,List.length_map,Array.length_toList,hp.size];omega
  refine wpAny_bind (seqEpoch_at ho2 rfl (wpAny_bind (listUpdate_at ho2 rfl ?_ (Nat.zero_le _) hsz)))
  rw [hf]
  simp only [bne_self_eq_false,Bool.false_eq_true,if_false]
  exact wpAny_pure (h p hp ha)
theorem gI {l:Addr}{o:Obj}{vs:List Value}{n:Nat}{T:String}{Q:List Value->Shared->Prop} (hT:T="list"\/T="tuple") (ho:s.heap.get? l=some o) (hc:o.cls=.type T) (hd:o.data=.seq vs.toArray n)
  (h:Q vs { s with heap:=(s.heap.push (seqObj "list" #[] 0)).update s.heap.objs.size (Obj.mapSeq (·++vs.toArray)) }) (hsz:vs.length<=sizeLine):wpAny (model prog w) A (collect (.ref l)) Q E s:=by
 rcases hT with rfl | rfl
 ·exact collect_list ⟨o,ho,hc,n,hd⟩ h hsz
 ·unfold collect
  refine wpAny_bind (wpAny_runValue (codeAny_builtin entry_proto_collect' ?_))
  show wpAny _ _ (do again (.builtin "list.__iadd__" ⟨[<- newList [],.ref l],[]⟩)) _ _ s
  refine wpAny_bind (wpAny_newList (wpAny_pure ⟨Code.quiet_builtin _ (by decide +kernel),codeAny_builtin entry_list_iadd' ?_⟩))
  show wpAny _ _ (Builtin.List.listExtendWith (.ref s.heap.objs.size) (.ref l) (.ref s.heap.objs.size)) _ _ { s with heap:=s.heap.push (seqObj "list" #[] 0) }
  unfold Builtin.List.listExtendWith
  have ho':(s.heap.push (seqObj "list" #[] 0)).get? l=some o:=Heap.get?_push_of_some _ ho
  refine wpAny_bind (wpAny_typeOf (T:="tuple") ⟨o,ho',hc⟩ ?_)
  rw [if_pos (by rw [show (Value.type "tuple" == Value.type "tuple")=true from rfl];simp)]
  refine wpAny_bind (listItems_at ho' hd (wpAny_bind (listItems_at (xs:=#[]) (n:=0) (Heap.get?_push_size _ rfl) rfl ?_)))
  rw [if_neg (by simp)]
  refine wpAny_bind (listUpdate_at (xs:=#[]) (n:=0) (Heap.get?_push_size _ rfl) rfl (wpAny_pure ?_) (Nat.zero_le _) (by show (#[]++vs.toArray).size<=sizeLine + 1;simp only [Array.size_append,List.size_toArray,List.length_nil];omega))
  show wpAny (model prog w) A (do
    let o <- load s.heap.objs.size
    match o.data with
    | .seq xs _=>pure xs.toList
    | _=>unsupported "internal:collect") Q E { s with heap:=(s.heap.push (seqObj "list" #[] 0)).update s.heap.objs.size (Obj.mapSeq (·++vs.toArray)) }
  refine wpAny_bind (wpAny_load (get?_update_seq (Heap.get?_push_size _ rfl) _) ?_)
  show wpAny _ _ (pure ((#[]:Array Value)++vs.toArray).toList) Q E _
  rw [show ((#[]:Array Value)++vs.toArray).toList=vs by simp]
  exact wpAny_pure h
theorem oN {lt:Nat->Nat->Bool}{l:Addr}{o:Obj}{vs:List Value}{n:Nat}{T:String}{Q:Value->Shared->Prop} (hT:T="list"\/T="tuple") (ho:s.heap.get? l=some o) (hc:o.cls=.type T) (hd:o.data=.seq vs.toArray n) (h64:vs.length < 64) (O:Ord vs.length lt)
  (hk:2<=vs.length->∀s':Shared,(∀b o,s.heap.get? b=some o->s'.heap.get? b=some o)->gf prog w A.in1.in1 vs lt s')
  (h:∀p,Pm vs.length p->Asc lt p vs.length->Q (.ref (s.heap.objs.size + 1)) { s with heap:=sortedAll s.heap vs (cX vs p).toArray }):wpAny (model prog w) A (call (.builtin "sorted") [.ref l]) Q E s:=by
 refine Calls.call_function_entry kind_sorted plain_sorted entry_sorted (args_sorted1 _) ?_
 unfold Builtin.«sorted»
 refine wpAny_bind (m:=checkCount "sorted" 1 1 _) (wpAny_pure (wpAny_bind (gI hT ho hc hd (wpAny_bind (wpAny_newList ?_ (by rw [sizeLine_eq];omega))) (by rw [sizeLine_eq];omega))))
 have hsz:((s.heap.push (seqObj "list" #[] 0)).update s.heap.objs.size (Obj.mapSeq (·++vs.toArray))).objs.size=s.heap.objs.size + 1:=by rw [Heap.size_update,size_push']
 have hoL:(((s.heap.push (seqObj "list" #[] 0)).update s.heap.objs.size (Obj.mapSeq (·++vs.toArray))).push (seqObj "list" vs.toArray 0)).get? (s.heap.objs.size + 1)=some (seqObj "list" vs.toArray 0):=by
  rw [<- hsz]
  exact Heap.get?_push_size _ rfl
 show wpAny _ _ _ _ _ { s with heap:=((s.heap.push (seqObj "list" #[] 0)).update s.heap.objs.size (Obj.mapSeq (·++vs.toArray))).push (seqObj "list" vs.toArray 0) }
 rw [hsz]
 have kp:∀b o,s.heap.get? b=some o->(((s.heap.push (seqObj "list" #[] 0)).update s.heap.objs.size (Obj.mapSeq (·++vs.toArray))).push (seqObj "list" vs.toArray 0)).get? b=some o:=fun b ob e=>by
  have hb:=Heap.lt_size e
  refine Heap.get?_push_of_some _ ?_
  rw [Heap.get?_update_ne _ _ _ _ (Nat.ne_of_lt hb)]
  exact Heap.get?_push_of_some _ e
 refine wpAny_bind (wpAny_holding (wpAny_call_entry slot_list_sort ⟨_,hoL,rfl⟩ entry_list_sort (lJ hoL h64 O (fun z s' hs'=>hk z s' fun b ob e=>hs' b ob (by have:=Heap.lt_size e;exact Nat.ne_of_lt (Nat.lt_succ_of_lt this)) (kp b ob e)) fun p hp ha=>⟨_,rfl,?_⟩) (args_list_sort _)))
 exact wpAny_pure ⟨_,rfl,h p hp ha⟩
end
theorem fN {h:Heap}:∀{vs fs:List Value},KatTups h vs fs->∀(i:Nat),i < vs.length->∃a o xs n f,vs.getD i Value.none=.ref a/\h.get? a=some o/\o.data=.seq xs n/\xs[0]?=some f/\fs[i]?=some f
 | [],[],_,i,hi=>absurd hi (Nat.not_lt_zero _)
 | [],_::_,t,_,_=>t.elim
 | _::_,[],t,_,_=>t.elim
 | v::vs,f::fs,t,0,_=>by
  obtain⟨⟨a,o,xs,n,rfl,ho,hc,hd,hf⟩,_⟩:=t
  exact⟨a,o,xs,n,f,rfl,ho,hd,hf,rfl⟩
 | v::vs,f::fs,t,i + 1,hi=>by
  obtain⟨_,t⟩:=t
  obtain⟨a,o,xs,n,g,e1,e2,e3,e4,e5⟩:=fN t i (by simpa using hi)
  exact⟨a,o,xs,n,g,by simpa using e1,e2,e3,e4,by simpa using e5⟩
theorem fP:∀{fs:List Value}{ss:List Str},StrsAre fs ss->∀(i:Nat) (f:Value),fs[i]?=some f->∃t,f=.str (ss.getD i Str.empty) t/\i < ss.length
 | _,_,.nil,i,f,h=>by simp at h
 | _,_,.cons y t r,0,f,h=>by simp at h;exact⟨t,h.symm,by simp⟩
 | _,_,.cons y t r,i + 1,f,h=>by
  obtain⟨t',e1,e2⟩:=fP r i f (by simpa using h)
  exact⟨t',by simpa using e1,by simpa using e2⟩
theorem pD {prog:Program}{w:World}{A:Around}{s:Shared}{vs fs:List Value}{ss:List Str} (t:KatTups s.heap vs fs) (hS:StrsAre fs ss) (hne:0 < fs.length) (hnd:ss.Nodup) :
  gf prog w A vs (fun i j=>decide ((ss.getD i Str.empty).cps.toList < (ss.getD j Str.empty).cps.toList)) s:=by
 refine⟨tuples' (Value.type "str" != Value.type "tuple"),fun Q q=>kat_kind (T:=Value.type "str") t hne (fun v hv=>?_) (by decide) q,fun i j C hi hj hij q=>?_⟩
 ·obtain⟨x,u,rfl⟩:=hS.all v hv
  exact Looks.now
 ·obtain⟨a,o,xs,n,f,e1,e2,e3,e4,e5⟩:=fN t i hi
  obtain⟨b,o',ys,n',g,g1,g2,g3,g4,g5⟩:=fN t j hj
  obtain⟨tf,rfl,hil⟩:=fP hS i f e5
  obtain⟨tg,rfl,hjl⟩:=fP hS j g g5
  unfold kas_ask
  rw [e1,g1]
  refine kat_lt e2 e3 g2 g3 ?_
  obtain⟨xr,hx⟩:∃xr,xs.toList=.str (ss.getD i Str.empty) tf::xr:=by
   cases hq:xs.toList with
   | nil=>rw [<- Array.getElem?_toList,hq] at e4;simp at e4
   | cons z zr=>rw [<- Array.getElem?_toList,hq] at e4;simp at e4;rw [e4];exact⟨zr,rfl⟩
  obtain⟨yr,hy⟩:∃yr,ys.toList=.str (ss.getD j Str.empty) tg::yr:=by
   cases hq:ys.toList with
   | nil=>rw [<- Array.getElem?_toList,hq] at g4;simp at g4
   | cons z zr=>rw [<- Array.getElem?_toList,hq] at g4;simp at g4;rw [g4];exact⟨zr,rfl⟩
  rw [hx,hy]
  have hnE:ss.getD i Str.empty≠ss.getD j Str.empty:=by
   rw [List.getD_eq_getElem?_getD,List.getD_eq_getElem?_getD,List.getElem?_eq_getElem hil,List.getElem?_eq_getElem hjl]
   intro z
   have z':ss[i]=ss[j]:=z
   rcases Nat.lt_or_gt_of_ne hij with y | y
   ·exact List.pairwise_iff_getElem.mp hnd i j hil hjl y z'
   ·exact List.pairwise_iff_getElem.mp hnd j i hjl hil y z'.symm
  show KatLex prog w A _ _ C ((Value.str (ss.getD i Str.empty) tf,Value.str (ss.getD j Str.empty) tg)::xr.zip yr) 0 s
  refine kat_cons (wpAny_eqBool_str ?_)
  rw [decide_eq_false hnE]
  refine kat_no ?_
  show wpAny _ A (oneLt' true _ _) C _ s
  exact strKind_oneLt prog w A _ s _ _ _ _ rfl rfl q
theorem iX {x y:Str} (h:x≠y):x.cps.toList < y.cps.toList\/y.cps.toList < x.cps.toList:=by
 by_cases c:x.cps.toList < y.cps.toList
 ·exact .inl c
 ·rcases List.le_iff_lt_or_eq.mp (List.not_lt.mp c) with z | z
  ·exact .inr z
  ·refine absurd ?_ h
   obtain⟨a⟩:=x
   obtain⟨b⟩:=y
   have e:b=a:=Array.toList_inj.mp z
   rw [e]
noncomputable def jy (H:Hp) (rs:List (Addr×Str)):Prop:=∀r∈rs,∃rest,H r.1=some (.tup (.str r.2::rest))
noncomputable abbrev refs (rs:List (Addr×Str)):List V:=rs.map fun r=>V.ref r.1
noncomputable def nlt (x y:Str):Prop:=x.cps.toList < y.cps.toList
theorem gJ {P:Program}{w:World}{H:Hp}{h:Heap} (ok:HOk P w H h):∀{rs:List (Addr×Str)}{us:List Value},jy H rs->am (refs rs) us->∃fs,KatTups h us fs/\StrsAre fs (rs.map (·.2))
 | [],us,_,r=>by cases r;exact⟨[],trivial,.nil⟩
 | x::rs,us,hr,r=>by
  cases r with
  | @cons _ u _ us' r1 r2 =>
   obtain⟨fs,t,q⟩:=gJ ok (rs:=rs) (fun y hy=>hr y (List.mem_cons_of_mem _ hy)) r2
   obtain⟨rest,e⟩:=hr x List.mem_cons_self
   cases (show u=Value.ref x.1 from r1)
   obtain⟨_,its,rv,o,ho,hc,n,hd⟩:=(show aC P w H h x.1 (.tup (.str x.2::rest)) from ok x.1 _ e)
   cases rv with
   | @cons _ f _ its' rf _ =>
    obtain⟨tk,rfl⟩:=rf
    exact⟨.str x.2 tk::fs,KatTups.cons ho hc hd (by simp) t,.cons _ _ q⟩
theorem hZ {xs:List V}{us:List Value} (r:am xs us):∀{ps:List Nat},(∀i∈ps,i < xs.length)->am (ps.map fun i=>xs.getD i .non) (ps.map fun i=>us.getD i Value.none)
 | [],_=>.nil
 | i::ps,h=>by
  have hi:=h i List.mem_cons_self
  obtain⟨u,e,ru⟩:=r.get (List.getElem?_eq_getElem hi)
  refine .cons ?_ (hZ r fun j hj=>h j (List.mem_cons_of_mem _ hj))
  show RelV (xs.getD i .non) (us.getD i Value.none)
  rw [List.getD_eq_getElem?_getD,List.getD_eq_getElem?_getD,List.getElem?_eq_getElem hi,e]
  exact ru
theorem mn {α:Type} (d:α) (xs:List α) {p:Array Nat} (h:Pm xs.length p):(p.toList.map fun i=>xs.getD i d).Perm xs:=by
 have hp:p.toList.Perm (List.range xs.length):=by simpa using Array.perm_iff_toList_perm.mp h
 have e:(List.range xs.length).map (fun i=>xs.getD i d)=xs:=by
  apply List.ext_getElem
  ·simp
  ·intro i h1 h2
   simp [h2]
 exact (hp.map _).trans (by rw [e])
section
variable {X:Cx}
theorem kZ:bj X (.builtin "sorted") (fun xs H Q=>∃(p:Addr) (rs:List (Addr×Str)),xs=[.ref p]/\(SqL X.K H p (refs rs)\/SqT X.K H p (refs rs))/\jy H rs/\rs.length < 64/\(rs.map (·.2)).Nodup /\
  ∀(rs':List (Addr×Str)) (q:Addr),rs'.Perm rs->(rs'.map (·.2)).Pairwise nlt->H q=none->Q (.ref q) (upd H q (.lst (refs rs')))):=by
 intro pins s σ H xs us Q I r h
 obtain⟨p,rs,rfl,hq,hR,h64,hnd,q⟩:=h
 obtain⟨u,rfl,rx⟩:=vals1 r
 cases rx
 have core:∀(T:String) (o:Obj) (its:List Value) (n:Nat),(T="list"\/T="tuple")->s.heap.get? p=some o->o.cls=.type T->o.data=.seq its.toArray n->am (refs rs) its ->
   wpAny (model X.prog X.w) X.A (call (.builtin "sorted") [.ref p]) (EP X pins σ Q) X.xe s:=fun T o its n hT ho hc hd r'=>by
  have hl:=r'.length
  have hl':its.length=rs.length:=by rw [<- hl];simp
  have O:Ord its.length (fun i j=>decide (((rs.map (·.2)).getD i Str.empty).cps.toList < ((rs.map (·.2)).getD j Str.empty).cps.toList)):=by
   refine⟨fun i j k h1 h2=>?_,fun i=>?_,fun i j hi hj hij=>?_⟩
   ·exact decide_eq_true (List.lt_trans (of_decide_eq_true h1) (of_decide_eq_true h2))
   ·exact decide_eq_false (List.lt_irrefl _)
   ·have hil:i < (rs.map (·.2)).length:=by simpa [<- hl'] using hi
    have hjl:j < (rs.map (·.2)).length:=by simpa [<- hl'] using hj
    rw [List.getD_eq_getElem?_getD,List.getD_eq_getElem?_getD,List.getElem?_eq_getElem hil,List.getElem?_eq_getElem hjl]
    have ne:(rs.map (·.2))[i]≠(rs.map (·.2))[j]:=by
     rcases Nat.lt_or_gt_of_ne hij with y | y
     ·exact List.pairwise_iff_getElem.mp hnd i j hil hjl y
     ·exact fun z=>List.pairwise_iff_getElem.mp hnd j i hjl hil y z.symm
    exact (iX ne).imp decide_eq_true decide_eq_true
  refine oN hT ho hc hd (by omega) O (fun h2 s' hs'=>?_) fun pm hp ha=>?_
  ·obtain⟨fs,t,hS⟩:=gJ (I.hok.kept hs') hR r'
   have hfl:0 < fs.length:=by
    have:=hS.length
    simp at this
    omega
   exact pD t hS hfl hnd
  ·obtain⟨e,he⟩:=sortedAll_at s.heap its (cX its pm).toArray
   have hpm:Pm rs.length pm:=by rw [<- hl'];exact hp
   have hlt:∀i∈pm.toList,i < rs.length:=fun i hi=>by
    have:i∈(List.toArray (List.range rs.length)):=hpm.mem_iff.mp (by simpa using hi)
    simpa using this
   have hv:am ((pm.toList.map fun i=>(refs rs).getD i .non)) (cX its pm):=hZ r' fun i hi=>by simpa using hlt i hi
   have he2:(pm.toList.map fun i=>(refs rs).getD i .non)=refs (pm.toList.map fun i=>rs.getD i (0,Str.empty)):=by
    unfold refs
    rw [List.map_map]
    exact List.map_congr_left fun i hi=>by simp [hlt i hi]
   rw [he2] at hv
   have hfr:H (s.heap.objs.size + 1)=none:=I.hok.fresh (Nat.le_succ _)
   have hpe:=mn (0,Str.empty) rs hpm
   refine⟨.ref (s.heap.objs.size + 1),_,I.laid (t':=s.toks) (o:=.lst (refs (pm.toList.map fun i=>rs.getD i (0,Str.empty)))) (fun b o z=>sortedAll_old z) (Nat.le_succ _) ⟨?_,cX its pm,e,hv,?_⟩,rfl,q _ _ hpe ?_ hfr⟩
   ·unfold refs
    rw [List.length_map,hpe.length_eq,sizeLine_eq];omega
   ·simpa [seqObj] using he
   ·rw [List.map_map,List.pairwise_map]
    refine List.pairwise_iff_getElem.mpr fun i j hi hj hij=>?_
    have hps:=hp.size
    have hi':i < pm.size:=by simpa using hi
    have hj':j < pm.size:=by simpa using hj
    have z:=of_decide_eq_true (ha i j hij (by omega))
    rw [dU hi',dU hj'] at z
    show ((rs.getD pm.toList[i] (0,Str.empty)).2).cps.toList < ((rs.getD pm.toList[j] (0,Str.empty)).2).cps.toList
    have b1:=hlt pm.toList[i] (List.getElem_mem _)
    have b2:=hlt pm.toList[j] (List.getElem_mem _)
    simp only [Array.getElem_toList] at b1 b2 ⊢
    simpa [b1,b2] using z
 rcases hq with hq | hq
 ·obtain⟨its,r',pl,hz⟩:=I.list hq
  obtain⟨o,ho,hc,n,hd⟩:=pl.isList
  exact core "list" o its n (.inl rfl) ho hc hd r'
 ·obtain⟨its,r',pl,hz⟩:=I.tuple hq
  obtain⟨o,ho,hc,n,hd⟩:=pl
  exact core "tuple" o its n (.inr rfl) ho hc hd r'
end
end L2
namespace L2
open PySem PySem.Spec PyProof.Rows
noncomputable def Its (x:Str):It:=⟨fun i _=>i < x.length,fun i H v H'=>H'=H/\∃c,x.cps[i]?=some c/\v=.str ⟨#[c]⟩,fun i _=>x.length<=i⟩
theorem mS {P:Program}{w:World}{K:PySem.W.Frag}{tg:Expr} (x:Str) (t:Tok) (it:Addr):Turn P w K tg (Its x) [it] it (fun i h=>h.IsStrIter it "str_ascii_iterator" x t i) where
 mem:=by simp
 obj:=fun i h st b hb=>by
  have e:b=it:=by simpa using hb
  subst e
  obtain⟨o,e,c,d⟩:=st
  exact⟨o,e,fun v z=>by rw [d] at z;cases z⟩
 keep:=fun i h h' st k=>by
  obtain⟨o,e,r⟩:=st
  exact⟨o,k it (by simp) o e,r⟩
 item:=by
  intro X hP hw hK hc i pins s σ H E I hf st hg
  subst hP hw hK
  have hg':i < x.cps.size:=hg
  obtain⟨f0,f1,f2,f3,f4,f5⟩:=hf it (by simp)
  refine wpAny_pyNext_ascii_item st (Array.getElem?_eq_getElem hg') fun h' st' sb=>?_
  have I1:Inv X pins σ H { s with heap:=h',toks:=s.toks + 1 }:=I.turned (fun b o hb e=>(sb.2 b hb).trans e) f0 f1 f3 f4 f5
  obtain⟨o,e,c,d⟩:=id st'
  exact⟨_,rfl,dq (s:={ s with heap:=h',toks:=s.toks + 1 }) e c d (by decide) ⟨.str ⟨#[x.cps[i]]⟩,H,I1,⟨_,rfl⟩,⟨rfl,_,Array.getElem?_eq_getElem hg',rfl⟩,st',fun b hb=>(hf b hb).1⟩⟩
 done:=by
  intro X hP hw hK hc i pins s σ H E I hf st hg
  subst hP hw hK
  have hg':x.cps.size<=i:=hg
  obtain⟨f0,f1,f2,f3,f4,f5⟩:=hf it (by simp)
  exact wpAny_pyNext_ascii_end (I.ok.hd hc) st (Array.getElem?_eq_none hg') fun h' eb=>⟨rfl,I.turned (t':=s.toks) (fun b o hb e=>eb b o hb e) f0 f1 f3 f4 f5⟩
 self:=fun A i s Q E st h=>wpAny_pyIter_striter_ascii st h
section
variable {X:Cx}{tg:Expr}
noncomputable def qY (tl:TE):TI:=fun σ H R=>tl σ H fun v H1=>∃x:Str,v=.str x/\x.cps.all (· < 128)=true/\R (Its x) H1
theorem pA {l:Expr}{tl:TE} (hl:PE X l tl):PI X tg l (qY tl):=by
 intro pins s σ H R I h
 refine thn (hl pins s σ H _ I h) fun v s1 ⟨x,H1,I1,r1,q1⟩=>?_
 obtain⟨y,rfl,ha,q⟩:=q1
 obtain⟨t,rfl⟩:=r1
 refine wpAny_pyIter_ascii ha ?_
 refine⟨s1.heap.objs.size,[s1.heap.objs.size],_,_,H1,rfl,I1.kept (t':=s1.toks) fun b o e=>Heap.get?_push_of_some _ e,mS y t _,⟨_,Heap.get?_push_size _ rfl,rfl,rfl⟩,fun b hb=>?_,q⟩
 have e:b=s1.heap.objs.size:=by simpa using hb
 subst e
 exact I1.fpOk (Nat.le_refl _) (I1.hok.fresh (Nat.le_refl _))
theorem mH {prog:Program}{w:World}{A:Around}{E:Value->Shared->Prop}{s:Shared}{t sl:Addr}{items:Array Value}{vl vu:Value}{lo hi:Option Int}{Q:Value->Shared->Prop} (ht:IsTup s.heap t items) (hs:s.heap.IsSliceOf sl vl vu .none) (pl:IsPart vl lo) (pu:IsPart vu hi)
  (h0:HT.sIx items.size 0 lo=0) (h1:HT.sIx items.size items.size hi=items.size) (h:Q (.ref t) s):wpAny (model prog w) A (getItem (.ref t) (.ref sl)) Q E s:=by
 obtain⟨os,hos,hcs,hds⟩:=id hs
 have hTs:s.TypeIs (.ref sl) "slice":=⟨os,hos,hcs⟩
 unfold getItem
 try with_reducible refine wpAny_holding ?_
 first | refine wpAny_bind (wpAny_pure ?_) | skip
 refine wpAny_bind (wpAny_sequenceKey ht.typeIs (by decide) (wpAny_bind (wpAny_callSpecial?_slot (name:=Str.ofString "__getitem__") ht.typeIs PyProof.Rows.slot_tuple_getitem
  (wpAny_call_entry PyProof.Rows.slot_tuple_getitem ht.typeIs entry_tuple_getitem ?_ (args_tuple_getitem _ _)))))
 show wpAny _ _ (Builtin.Tuple.tupleItemsOf (.ref t) >>= _) _ _ s
 refine wpAny_bind (tupleItemsOf_ ht (wpAny_bind (wpAny_typeOf hTs ?_)))
 rw [if_pos (by decide)]
 refine wpAny_bind (HT.kM hs pl pu ?_)
 show wpAny _ _ (if (((HT.sIx items.size 0 lo:Nat):Int) == 0 && (1:Int) == 1 && (HT.sIx items.size items.size hi - HT.sIx items.size 0 lo) == items.size)=true then _ else _) _ _ s
 rw [h0,h1,if_pos (by simp)]
 refine wpAny_bind (wpAny_bind (wpAny_typeOf ht.typeIs (wpAny_pure ?_)))
 rw [if_pos (by rfl)]
 exact wpAny_bind (wpAny_rule (wpAny_pure ⟨_,rfl,wpAny_pure h⟩))
noncomputable def qZ (K:PySem.W.Frag):V->Option Int->Option Int->Hp->VK->Prop:=fun x lo hi H Q=>∃a xs,x=.ref a/\SqT K H a xs /\
 (bw xs lo hi=xs->Q (.ref a) H)/\∀p,H p=none->Q (.ref p) (upd H p (.tup (bw xs lo hi)))
theorem jf:SlR X (qZ X.K):=by
 intro pins s σ H x v vl vu lo hi sl Q I rx hs pl pu h
 obtain⟨a,xs,rfl,hx,q1,q2⟩:=h
 by_cases hw:HT.sIx xs.length 0 lo=0/\HT.sIx xs.length xs.length hi=xs.length
 ·cases rx
  obtain⟨its,r,ht,hz⟩:=I.tuple hx
  have hlen:its.toArray.size=xs.length:=by rw [List.size_toArray];exact r.length.symm
  refine⟨"tuple",_,PyProof.Rows.slot_tuple_getitem.lookup,ht.typeIs,mH ht hs pl pu (by rw [hlen];exact hw.1) (by rw [hlen];exact hw.2) ⟨.ref a,H,I,rfl,q1 ?_⟩⟩
  unfold bw
  rw [hw.1,hw.2]
  simp
 ·exact pb pins s σ H (.ref a) v vl vu lo hi sl Q I rx hs pl pu ⟨a,xs,rfl,hx,hw,q2⟩
noncomputable def j7 (K:PySem.W.Frag):R2:=fun x y H Q=>∃a b xs ys,x=.ref a/\y=.ref b/\SqT K H a xs/\SqT K H b ys/\xs.length + ys.length<=sizeLine /\
 (xs=[]->Q (.ref b) H)/\(ys=[]->Q (.ref a) H)/\∀p,H p=none->Q (.ref p) (upd H p (.tup (xs++ys)))
theorem oI:OpR X (binaryOp .Add) (j7 X.K):=by
 intro pins s σ H x y v u Q I rx ry h
 obtain⟨a,b,xs,ys,rfl,rfl,ha,hb,hz,q0,q1,q2⟩:=h
 by_cases hx:xs=[]
 ·subst hx
  cases rx
  cases ry
  obtain⟨its,r1,p1,_⟩:=I.tuple ha
  obtain⟨its2,r2,p2,_⟩:=I.tuple hb
  cases r1
  obtain⟨⟨cls,dd,data,sl⟩,ho,hc,n,hd⟩:=id p1
  obtain⟨⟨cls2,dd2,data2,sl2⟩,ho2,hc2,n2,hd2⟩:=id p2
  simp only at hc hd hc2 hd2
  subst hc hd hc2 hd2
  exact concat_meets ⟨_,ho,rfl⟩ ⟨_,ho2,rfl⟩ noFill_tuple_add seq_tuple_add PySem.F.slot_tuple_add PySem.F.entry_tuple_add (PySem.F.args_tuple_add_2 _ _)
   (tuple_addW0 a b _ its2.toArray n n2 dd dd2 sl sl2 (by simp)) ⟨ho,ho2,⟨.ref b,H,I,rfl,q0 rfl⟩⟩
 ·exact oF pins s σ H (.ref a) (.ref b) v u Q I rx ry ⟨a,b,xs,ys,rfl,rfl,ha,hb,hx,hz,q1,fun _=>q2⟩
end
section
variable {K:PySem.W.Frag}{g:TG}{tt:TT}{te:TE}{σ':St}{fin:List V->Hp->Prop}{H1:Hp}
theorem eK {J:It}{n:Nat} (hn:n < sizeLine) (Pv:Nat->List V->St->Hp->Prop) (Yd:Nat->V->Prop) (h0:Pv 0 [] σ' H1) (hl:∀i ys σ H,i<=n->Pv i ys σ H->ys.length<=i)
  (hgo:∀i ys σ H,i < n->Pv i ys σ H->J.go i H) (hst:∀ys σ H,Pv n ys σ H->J.stop n H) (hy:∀i ys σ H x H',i < n->Pv i ys σ H->J.yld i H x H'->H'=H/\Yd i x)
  (hs:∀i x ys σ H,i < n->Yd i x->Pv i ys σ H->g x σ H fun σ2 H2=>tt σ2 H2 fun b H3=>if b=true then te σ2 H3 (fun v H4=>Pv (i + 1) (ys++[v]) σ2 H4) else Pv (i + 1) ys σ2 H3) (hd:∀ys σ H,Pv n ys σ H->fin ys H) :
  LcW J g tt te σ' fin H1:=by
 refine⟨fun i m ys σ H=>m=n - i/\i<=n/\Pv i ys σ H,⟨n,by simp,Nat.zero_le _,h0⟩,?_⟩
 rintro i m ys σ H ⟨rfl,hi,p⟩
 have hly:=hl i ys σ H hi p
 by_cases hlt:i < n
 ·refine .inr ⟨hgo i ys σ H hlt p,by omega,fun ys' σ2 H2=>Pv (i + 1) ys' σ2 H2,fun ys' σ2 H2 q=>⟨n - (i + 1),by omega,rfl,hlt,q⟩,fun x H' y=>?_⟩
  obtain⟨e,yd⟩:=hy i ys σ H x H' hlt p y
  subst e
  exact hs i x ys σ H' hlt yd p
 ·have e:i=n:=by omega
  subst e
  exact .inl ⟨hst ys σ H p,by omega,hd ys σ H p⟩
theorem eI {a:Addr}{xs:List V} (hn:xs.length < sizeLine) (Pv:Nat->List V->St->Hp->Prop) (h0:Pv 0 [] σ' H1) (hl:∀i ys σ H,i<=xs.length->Pv i ys σ H->ys.length<=i/\SqT K H a xs)
  (hs:∀i x ys σ H,xs[i]?=some x->Pv i ys σ H->g x σ H fun σ2 H2=>tt σ2 H2 fun b H3=>if b=true then te σ2 H3 (fun v H4=>Pv (i + 1) (ys++[v]) σ2 H4) else Pv (i + 1) ys σ2 H3) (hd:∀ys σ H,Pv xs.length ys σ H->fin ys H) :
  LcW (Itt K a) g tt te σ' fin H1 :=
 eK hn Pv (fun i x=>xs[i]?=some x) h0 (fun i ys σ H hi p=>(hl i ys σ H hi p).1) (fun i ys σ H hi p=>⟨xs,xs[i],(hl i ys σ H (Nat.le_of_lt hi) p).2,by simp [hi]⟩) (fun ys σ H p=>⟨xs,(hl _ ys σ H (Nat.le_refl _) p).2,Nat.le_refl _⟩)
  (fun i ys σ H x H' hi p y=>⟨y.1,y.2 xs (hl i ys σ H (Nat.le_of_lt hi) p).2⟩) (fun i x ys σ H _ yd p=>hs i x ys σ H yd p) hd
theorem iI {a:Addr}{xs:List V} (hn:xs.length < sizeLine) (Pv:Nat->List V->St->Hp->Prop) (h0:Pv 0 [] σ' H1) (hl:∀i ys σ H,i<=xs.length->Pv i ys σ H->ys.length<=i/\SqL K H a xs)
  (hs:∀i x ys σ H,xs[i]?=some x->Pv i ys σ H->g x σ H fun σ2 H2=>tt σ2 H2 fun b H3=>if b=true then te σ2 H3 (fun v H4=>Pv (i + 1) (ys++[v]) σ2 H4) else Pv (i + 1) ys σ2 H3) (hd:∀ys σ H,Pv xs.length ys σ H->fin ys H) :
  LcW (Itl K a) g tt te σ' fin H1 :=
 eK hn Pv (fun i x=>xs[i]?=some x) h0 (fun i ys σ H hi p=>(hl i ys σ H hi p).1) (fun i ys σ H hi p=>⟨xs,xs[i],(hl i ys σ H (Nat.le_of_lt hi) p).2,by simp [hi]⟩) (fun ys σ H p=>⟨xs,(hl _ ys σ H (Nat.le_refl _) p).2,Nat.le_refl _⟩)
  (fun i ys σ H x H' hi p y=>⟨y.1,y.2 xs (hl i ys σ H (Nat.le_of_lt hi) p).2⟩) (fun i x ys σ H _ yd p=>hs i x ys σ H yd p) hd
theorem lR {lo:Int}{n:Nat} (hn:n < sizeLine) (Pv:Nat->List V->St->Hp->Prop) (h0:Pv 0 [] σ' H1) (hl:∀i ys σ H,i<=n->Pv i ys σ H->ys.length<=i)
  (hs:∀i ys σ H,i < n->Pv i ys σ H->g (.int (lo + i)) σ H fun σ2 H2=>tt σ2 H2 fun b H3=>if b=true then te σ2 H3 (fun v H4=>Pv (i + 1) (ys++[v]) σ2 H4) else Pv (i + 1) ys σ2 H3) (hd:∀ys σ H,Pv n ys σ H->fin ys H) :
  LcW (Itr lo n) g tt te σ' fin H1 :=
 eK hn Pv (fun i x=>x=.int (lo + i)) h0 hl (fun i ys σ H hi p=>hi) (fun ys σ H p=>Nat.le_refl _) (fun i ys σ H x H' hi p y=>y) (fun i x ys σ H hi yd p=>by subst yd;exact hs i ys σ H hi p) hd
theorem oh {x:Str} (hn:x.length < sizeLine) (Pv:Nat->List V->St->Hp->Prop) (h0:Pv 0 [] σ' H1) (hl:∀i ys σ H,i<=x.length->Pv i ys σ H->ys.length<=i)
  (hs:∀i c ys σ H,x.cps[i]?=some c->Pv i ys σ H->g (.str ⟨#[c]⟩) σ H fun σ2 H2=>tt σ2 H2 fun b H3=>if b=true then te σ2 H3 (fun v H4=>Pv (i + 1) (ys++[v]) σ2 H4) else Pv (i + 1) ys σ2 H3) (hd:∀ys σ H,Pv x.length ys σ H->fin ys H) :
  LcW (Its x) g tt te σ' fin H1 :=
 eK hn Pv (fun i v=>∃c,x.cps[i]?=some c/\v=.str ⟨#[c]⟩) h0 hl (fun i ys σ H hi p=>hi) (fun ys σ H p=>Nat.le_refl _) (fun i ys σ H v H' hi p y=>y) (fun i v ys σ H hi yd p=>by obtain⟨c,e,rfl⟩:=yd;exact hs i c ys σ H e p) hd
end
section
variable {K:PySem.W.Frag}{tt:TT}{te:TE}{σ':St}{fin:List V->Hp->Prop}{H1:Hp}{j:Nat}
theorem fB {a:Addr}{xs:List V} (hn:xs.length < sizeLine) (Pv:Nat->List V->St->Hp->Prop) (h0:Pv 0 [] σ' H1) (hl:∀i ys σ H,i<=xs.length->Pv i ys σ H->ys.length<=i/\SqT K H a xs)
  (hs:∀i x ys σ H,xs[i]?=some x->Pv i ys σ H->te (σ.set j (some x)) H fun v H4=>Pv (i + 1) (ys++[v]) (σ.set j (some x)) H4) (hd:∀ys σ H,Pv xs.length ys σ H->fin ys H):LcW (Itt K a) (bC j) be te σ' fin H1 :=
 eI hn Pv h0 hl (fun i x ys σ H hx p=>by unfold bC be;exact bP (hs i x ys σ H hx p)) hd
theorem eg {a:Addr}{xs:List V} (hn:xs.length < sizeLine) (Pv:Nat->List V->St->Hp->Prop) (h0:Pv 0 [] σ' H1) (hl:∀i ys σ H,i<=xs.length->Pv i ys σ H->ys.length<=i/\SqL K H a xs)
  (hs:∀i x ys σ H,xs[i]?=some x->Pv i ys σ H->te (σ.set j (some x)) H fun v H4=>Pv (i + 1) (ys++[v]) (σ.set j (some x)) H4) (hd:∀ys σ H,Pv xs.length ys σ H->fin ys H):LcW (Itl K a) (bC j) be te σ' fin H1 :=
 iI hn Pv h0 hl (fun i x ys σ H hx p=>by unfold bC be;exact bP (hs i x ys σ H hx p)) hd
theorem cv {lo:Int}{n:Nat} (hn:n < sizeLine) (Pv:Nat->List V->St->Hp->Prop) (h0:Pv 0 [] σ' H1) (hl:∀i ys σ H,i<=n->Pv i ys σ H->ys.length<=i)
  (hs:∀i ys σ H,i < n->Pv i ys σ H->te (σ.set j (some (.int (lo + i)))) H fun v H4=>Pv (i + 1) (ys++[v]) (σ.set j (some (.int (lo + i)))) H4) (hd:∀ys σ H,Pv n ys σ H->fin ys H):LcW (Itr lo n) (bC j) be te σ' fin H1 :=
 lR hn Pv h0 hl (fun i ys σ H hx p=>by unfold bC be;exact bP (hs i ys σ H hx p)) hd
theorem m4 {x:Str} (hn:x.length < sizeLine) (Pv:Nat->List V->St->Hp->Prop) (h0:Pv 0 [] σ' H1) (hl:∀i ys σ H,i<=x.length->Pv i ys σ H->ys.length<=i)
  (hs:∀i c ys σ H,x.cps[i]?=some c->Pv i ys σ H->te (σ.set j (some (.str ⟨#[c]⟩))) H fun v H4=>Pv (i + 1) (ys++[v]) (σ.set j (some (.str ⟨#[c]⟩))) H4) (hd:∀ys σ H,Pv x.length ys σ H->fin ys H):LcW (Its x) (bC j) be te σ' fin H1 :=
 oh hn Pv h0 hl (fun i c ys σ H hx p=>by unfold bC be;exact bP (hs i c ys σ H hx p)) hd
theorem ij {a:Addr}{xs:List V} (hn:xs.length < sizeLine) (Pv:Nat->List V->St->Hp->Prop) (h0:Pv 0 [] σ' H1) (hl:∀i ys σ H,i<=xs.length->Pv i ys σ H->ys.length<=i/\SqL K H a xs)
  (hs:∀i x ys σ H,xs[i]?=some x->Pv i ys σ H->tt (σ.set j (some x)) H fun b H3=>if b=true then te (σ.set j (some x)) H3 (fun v H4=>Pv (i + 1) (ys++[v]) (σ.set j (some x)) H4) else Pv (i + 1) ys (σ.set j (some x)) H3)
  (hd:∀ys σ H,Pv xs.length ys σ H->fin ys H):LcW (Itl K a) (bC j) tt te σ' fin H1:=iI hn Pv h0 hl hs hd
end
section
variable {X:Cx}{pins:List (Addr×Obj)}{σ:St}{H:Hp}{s:Shared}{h':Heap}
theorem Inv.turnedS {t':Nat}{ch:List Addr} (I:Inv X pins σ H s) (k:∀b o,b∉ch->s.heap.get? b=some o->h'.get? b=some o) (hf:∀b∈ch,br X pins H b):Inv X pins σ H { s with heap:=h',toks:=t' }:=by
 have nit:∀b u,H b=some u->b∉ch:=fun b u e z=>by rw [(hf b z).1] at e;cases e
 have hL:X.env.locals∉ch:=fun z=>(hf _ z).2.1 rfl
 refine I.step (g':=s.gens) (d':=s.drawn) (ch:=ch) (fun b hb=>⟨(hf b hb).2.2.2.1,(hf b hb).2.1,(hf b hb).2.2.2.2.1,(hf b hb).2.2.2.2.2⟩) (fun b o _ _ hc e _=>k b o hc e) (fun b o _ _ hc e _=>⟨o.slots,k b o hc e⟩) (fun _ _ _ _ n=>n)
  (fun b o hc e=>⟨o,k b o hc e⟩) (fun _ _ e=>e) (fun _ _ _ e=>e) (fun b ps e=>⟨#[],by rw [e];simp⟩) (fun m hm=>?_) (fun b u e=>?_) I.bare
 ·obtain⟨o,es,ep,ho,r⟩:=hm
  exact⟨o,es,ep,k _ o hL ho,r⟩
 ·refine (I.hok b u e).stay (fun c v hc q=>k c v ?_ q) (fun _ q=>q) fun _ _ q=>q
  rcases hc with z | z
  ·rw [z];exact nit b u e
  ·exact nit c _ z
end
noncomputable def Itz (K:PySem.W.Frag) (a b:Addr):It :=
 ⟨fun i H=>∃xs ys x y,SqL K H a xs/\SqL K H b ys/\xs[i]?=some x/\ys[i]?=some y,
  fun i H v H'=>∃T x y,v=.ref T/\H T=none/\H'=upd H T (.tup [x,y])/\(∀xs,SqL K H a xs->xs[i]?=some x)/\∀ys,SqL K H b ys->ys[i]?=some y,
  fun i H=>∃xs ys,SqL K H a xs/\SqL K H b ys/\(xs.length<=i\/ys.length<=i)⟩
noncomputable def qk (z TI TO i1 i2 l1 l2:Addr) (i:Nat) (h:Heap):Prop:=IsZip h z TI TO .none/\IsPair h TI (.ref i1) (.ref i2)/\(∃a b,IsPair h TO a b)/\h.IsListIter i1 l1 i/\h.IsListIter i2 l2 i
theorem nh {P:Program}{w:World}{K:PySem.W.Frag}{elts:List Expr}{x1}{pos:Pos} (z TI TO i1 i2 l1 l2:Addr) (D:ZipApart z TI TO i1 i2 l1 l2) :
  Turn P w K (.Tuple elts x1 pos) (Itz K l1 l2) [z,TI,TO,i1,i2] z (qk z TI TO i1 i2 l1 l2) where
 mem:=by simp
 obj:=fun i h st b hb=>by
  obtain⟨hz,hTI,⟨a,c,hTO⟩,⟨o1,e1,c1,d1⟩,⟨o2,e2,c2,d2⟩⟩:=st
  simp only [List.mem_cons,List.not_mem_nil,or_false] at hb
  rcases hb with rfl | rfl | rfl | rfl | rfl
  ·exact⟨_,hz,fun v q=>by cases q⟩
  ·exact⟨_,hTI,fun v q=>by cases q⟩
  ·exact⟨_,hTO,fun v q=>by cases q⟩
  ·exact⟨_,e1,fun v q=>by rw [d1] at q;cases q⟩
  ·exact⟨_,e2,fun v q=>by rw [d2] at q;cases q⟩
 keep:=fun i h h' st k=>by
  obtain⟨hz,hTI,⟨a,c,hTO⟩,h1,h2⟩:=st
  exact⟨k z (by simp) _ hz,k TI (by simp) _ hTI,⟨a,c,k TO (by simp) _ hTO⟩,h1.at fun o e=>k i1 (by simp) o e,h2.at fun o e=>k i2 (by simp) o e⟩
 item:=by
  intro X hP hw hK hc i pins s σ H E I hf st hg
  subst hP hw hK
  obtain⟨xs,ys,x,y,hq1,hq2,hx,hy⟩:=hg
  obtain⟨hz,hTI,⟨a,c,hTO⟩,h1,h2⟩:=id st
  obtain⟨its1,rv1,p1,hz1⟩:=I.list hq1
  obtain⟨its2,rv2,p2,hz2⟩:=I.list hq2
  obtain⟨u1,hu1,ru1⟩:=rv1.get hx
  obtain⟨u2,hu2,ru2⟩:=rv2.get hy
  refine wpAny_pyNext_zip_item D hz hTI hTO h1 h2 p1.isList p2.isList (x:=u1) (y:=u2) (by simpa using hu1) (by simpa using hu2) fun h' a1 a2 a3 a4 a5 a6 a7=>?_
  refine⟨_,rfl,wpAny_letOwnedTupleGo_zip (s:={ s with heap:=h' }) a1 fun h'' z2 sb=>?_⟩
  have sb':=sb.extBut
  generalize hT:s.heap.objs.size=T at *
  have lt:∀{b:Addr}{o:Obj},s.heap.get? b=some o->b≠T:=fun {b o} e=>by rw [<- hT];exact Nat.ne_of_lt (Heap.lt_size e)
  have fresh:H T=none:=by rw [<- hT];exact I.hok.fresh (Nat.le_refl _)
  have hne:∀b∈[z,TI,TO,i1,i2],b≠T:=fun b hb=>by
   obtain⟨o1,e1,_⟩:=h1
   obtain⟨o2,e2,_⟩:=h2
   simp only [List.mem_cons,List.not_mem_nil,or_false] at hb
   rcases hb with rfl | rfl | rfl | rfl | rfl
   ·exact lt hz
   ·exact lt hTI
   ·exact lt hTO
   ·exact lt e1
   ·exact lt e2
  have I0:Inv X pins σ (upd H T (.tup [x,y])) { s with heap:=s.heap.push { cls:=.type "tuple",data:=.seq #[u1,u2] },toks:=s.toks }:=by
   subst hT
   exact I.laid (t':=s.toks) (fun b o q=>Heap.get?_push_of_some _ q) (Nat.le_refl _) ⟨by show 2<=sizeLine;decide,[u1,u2],.cons ru1 (.cons ru2 .nil),_,Heap.get?_push_size _ rfl,rfl,0,rfl⟩
  have up:∀b o,b∉[z,TI,TO,i1,i2]->(s.heap.push { cls:=.type "tuple",data:=.seq #[u1,u2] }).get? b=some o->h''.get? b=some o:=fun b o hb e=>by
   simp only [List.mem_cons,List.not_mem_nil,or_false,not_or] at hb
   rcases Heap.get?_push_cases e with ⟨e1,e2⟩ | e1
   ·subst e2
    rw [e1,hT]
    exact sb' _ _ (hne z (by simp)).symm a5
   ·exact sb' _ _ hb.1 (a7 b o hb.1 hb.2.2.1 hb.2.2.2.1 hb.2.2.2.2 e1)
  have I2:Inv X pins σ (upd H T (.tup [x,y])) { s with heap:=h'',toks:=s.toks }:=Inv.turnedS (s:={ s with heap:=s.heap.push { cls:=.type "tuple",data:=.seq #[u1,u2] },toks:=s.toks }) (t':=s.toks) (ch:=[z,TI,TO,i1,i2]) I0 up fun b hb=>by
   obtain⟨f0,f1⟩:=hf b hb
   exact⟨by rw [ag (hne b hb)];exact f0,f1⟩
  exact⟨.ref T,upd H T (.tup [x,y]),I2,rfl,⟨T,x,y,rfl,fresh,rfl,fun ws hw=>by rw [I.list_inj hw hq1];exact hx,fun ws hw=>by rw [I.list_inj hw hq2];exact hy⟩,
   ⟨z2,sb' _ _ D.TIz (a7 _ _ D.TIz D.TITO D.TIi1 D.TIi2 hTI),⟨_,_,sb' _ _ D.TOz a2⟩,a3.at fun o e=>sb' _ _ D.i1z e,a4.at fun o e=>sb' _ _ D.i2z e⟩,fun b hb=>by rw [ag (hne b hb)];exact (hf b hb).1⟩
 done:=by
  intro X hP hw hK hc i pins s σ H E I hf st hg
  subst hP hw hK
  obtain⟨xs,ys,hq1,hq2,hx⟩:=hg
  obtain⟨hz,hTI,⟨a,c,hTO⟩,h1,h2⟩:=id st
  obtain⟨its1,rv1,p1,hz1⟩:=I.list hq1
  obtain⟨its2,rv2,p2,hz2⟩:=I.list hq2
  have hl1:=rv1.length
  have hl2:=rv2.length
  refine wpAny_pyNext_zip_end (I.ok.hd hc) D hz hTI hTO h1 h2 p1.isList p2.isList ?_ fun h' hk=>⟨rfl,I.turnedS (t':=s.toks) (ch:=[z,TI,TO,i1,i2]) (fun b o hb e=>?_) hf⟩
  ·rcases hx with q | q
   ·exact .inl (by simp;omega)
   ·exact .inr (by simp;omega)
  ·simp only [List.mem_cons,List.not_mem_nil,or_false,not_or] at hb
   exact hk b o hb.1 hb.2.2.1 hb.2.2.2.1 hb.2.2.2.2 e
 self:=fun _ _ _ _ _ st h=>wpAny_pyIter_zip st.1 h
theorem boot_zip:bootBuiltins "zip"=some (.type "zip"):=by decide +kernel
section
variable {X:Cx}
noncomputable def rJ (K:PySem.W.Frag) (ta:TA):TI:=fun σ H R=>ta σ H fun vs H1=>∃a b xs ys,vs=[.ref a,.ref b]/\SqL K H1 a xs/\SqL K H1 b ys/\R (Itz K a b) H1
theorem fT {a b:Expr}{elts:List Expr}{x1}{tpos:Pos}{ta:TA}{p pos:Pos} (hg:Gl X "zip") (hm:X.mg "zip"=none) (ha:PA X [a,b] ta) (hs:starEach [a,b] X.env=[(false,eval a X.env),(false,eval b X.env)]:=by rfl) (hs2:starEach [b] X.env=[(false,eval b X.env)]:=by rfl) :
  PI X (.Tuple elts x1 tpos) (.Call (.Name "zip" p) [a,b] [] pos) (rJ X.K ta):=by
 intro pins s σ H R I h
 refine Call_ (bO I hg hm boot_zip (PyProof.Rows.callWith_type1 (thn (ha pos pins s σ H _ I h) fun us s1 ⟨vs,H1,I1,r1,q1⟩=>?_) (by rw [hs,hs2]) (by rw [hs2];rfl)))
 obtain⟨a',b',xs,ys,rfl,hq1,hq2,q⟩:=q1
 obtain⟨u1,u2,rfl,ra,rb⟩:=vals2 r1
 cases ra
 cases rb
 obtain⟨its1,rv1,p1,hz1⟩:=I1.list hq1
 obtain⟨its2,rv2,p2,hz2⟩:=I1.list hq2
 have l1:a' < s1.heap.objs.size:=by obtain⟨o,n,e,_⟩:=p1;exact Heap.lt_size e
 have l2:b' < s1.heap.objs.size:=by obtain⟨o,n,e,_⟩:=p2;exact Heap.lt_size e
 refine call_zip_2 p1.isList p2.isList fun h' hz hTI hTO hi1 hi2 hsz hk=>?_
 refine wpAny_pyIter_zip hz ?_
 refine⟨_,[s1.heap.objs.size + 4,s1.heap.objs.size + 2,s1.heap.objs.size + 3,s1.heap.objs.size,s1.heap.objs.size + 1],_,_,H1,rfl,I1.kept (t':=s1.toks) hk,nh _ _ _ _ _ _ _ (zipApart_new l1 l2),⟨hz,hTI,⟨_,_,hTO⟩,hi1,hi2⟩,fun b hb=>?_,q⟩
 have hle:s1.heap.objs.size<=b:=by
  simp only [List.mem_cons,List.not_mem_nil,or_false] at hb
  rcases hb with rfl | rfl | rfl | rfl | rfl
  ·exact Nat.le_add_right _ _
  ·exact Nat.le_add_right _ _
  ·exact Nat.le_add_right _ _
  ·exact Nat.le_refl _
  ·exact Nat.le_add_right _ _
 exact I1.fpOk hle (I1.hok.fresh hle)
end
section
variable {prog:Program}{w:World}{A:Around}{E:Value->Shared->Prop}{s:Shared}
end
section
variable {X:Cx}
theorem jk {K:PySem.W.Frag}{g:TG}{tt:TT}{te:TE}{σ':St}{fin:List V->Hp->Prop}{H1:Hp}{a b:Addr}{xs ys:List V} (hn:min xs.length ys.length < sizeLine) (Pv:Nat->List V->St->Hp->Prop) (h0:Pv 0 [] σ' H1)
  (hl:∀i zs σ H,i<=min xs.length ys.length->Pv i zs σ H->zs.length<=i/\SqL K H a xs/\SqL K H b ys)
  (hs:∀i x y zs σ H T,xs[i]?=some x->ys[i]?=some y->Pv i zs σ H->H T=none->g (.ref T) σ (upd H T (.tup [x,y])) fun σ2 H2=>tt σ2 H2 fun b H3=>if b=true then te σ2 H3 (fun v H4=>Pv (i + 1) (zs++[v]) σ2 H4) else Pv (i + 1) zs σ2 H3)
  (hd:∀zs σ H,Pv (min xs.length ys.length) zs σ H->fin zs H):LcW (Itz K a b) g tt te σ' fin H1:=by
 refine⟨fun i m zs σ H=>m=min xs.length ys.length - i/\i<=min xs.length ys.length/\Pv i zs σ H,⟨min xs.length ys.length,by simp,Nat.zero_le _,h0⟩,?_⟩
 rintro i m zs σ H ⟨rfl,hi,p⟩
 obtain⟨q0,q1,q2⟩:=hl i zs σ H hi p
 by_cases hlt:i < min xs.length ys.length
 ·have h1:i < xs.length:=by omega
  have h2:i < ys.length:=by omega
  refine .inr ⟨⟨xs,ys,xs[i],ys[i],q1,q2,by simp [h1],by simp [h2]⟩,by omega,fun zs' σ2 H2=>Pv (i + 1) zs' σ2 H2,fun zs' σ2 H2 q=>⟨min xs.length ys.length - (i + 1),by omega,rfl,hlt,q⟩,fun v H' y=>?_⟩
  obtain⟨T,x,y,rfl,hT,rfl,e1,e2⟩:=y
  exact hs i x y zs σ H T (e1 xs q1) (e2 ys q2) p hT
 ·have e:i=min xs.length ys.length:=by omega
  subst e
  refine .inl ⟨⟨xs,ys,q1,q2,?_⟩,by omega,hd zs σ H p⟩
  rcases Nat.le_total xs.length ys.length with z | z
  ·exact .inl (by omega)
  ·exact .inr (by omega)
end
section
variable {κ:Type} [DecidableEq κ]
noncomputable def aW (kvs:List (κ×V)) (k:κ):Option V:=(kvs.find? fun kv=>decide (kv.1=k)).map (·.2)
noncomputable def putK (kvs:List (κ×V)) (k:κ) (v:V):List (κ×V) :=
 if (kvs.any fun kv=>decide (kv.1=k))=true then kvs.map (fun kv=>if kv.1=k then (kv.1,v) else kv) else kvs++[(k,v)]
noncomputable def sj (kvs:List (κ×V)) (k:κ):List (κ×V):=kvs.filter fun kv=>decide (kv.1≠k)
theorem bF {p:κ×V}{r:List (κ×V)}{k:κ} (e:p.1=k):aW (p::r) k=some p.2:=by simp [aW,List.find?_cons,e]
theorem bG {p:κ×V}{r:List (κ×V)}{k:κ} (e:¬ p.1=k):aW (p::r) k=aW r k:=by simp [aW,List.find?_cons,e]
theorem cK (k:κ):∀kvs:List (κ×V),(kvs.any fun kv=>decide (kv.1=k))=(aW kvs k).isSome
 | []=>rfl
 | p::r=>by
  rw [List.any_cons]
  by_cases e:p.1=k
  ·simp only [bF e,decide_eq_true e,Bool.true_or,Option.isSome_some]
  ·rw [bG e,decide_eq_false e,Bool.false_or];exact cK k r
theorem iF (k j:κ) (y:V):∀kvs:List (κ×V),aW (kvs.map fun kv=>if kv.1=k then (kv.1,y) else kv) j=(aW kvs j).map fun x=>if j=k then y else x
 | []=>rfl
 | p::r=>by
  have ih:=iF k j y r
  rw [List.map_cons]
  by_cases h:p.1=k
  ·rw [if_pos h]
   by_cases e:p.1=j
   ·rw [bF (p:=(p.1,y)) e,bF e,Option.map_some,if_pos (e.symm.trans h)]
   ·rw [bG (p:=(p.1,y)) e,bG e,ih]
  ·rw [if_neg h]
   by_cases e:p.1=j
   ·rw [bF (p:=p) e,bF e,Option.map_some,if_neg (fun z=>h (e.trans z))]
   ·rw [bG (p:=p) e,bG e,ih]
theorem gR (k j:κ) (y:V):∀kvs:List (κ×V),aW kvs k=none->aW (kvs++[(k,y)]) j=if j=k then some y else aW kvs j
 | [],_=>by
  by_cases e:k=j
  ·rw [if_pos e.symm];exact bF (p:=(k,y)) e
  ·rw [if_neg (fun z=>e z.symm)];exact bG (p:=(k,y)) e
 | p::r,hn=>by
  rw [List.cons_append]
  have hk:¬ p.1=k:=fun z=>by rw [bF z] at hn;cases hn
  rw [bG hk] at hn
  have ih:=gR k j y r hn
  by_cases e:p.1=j
  ·rw [bF e,bF e,if_neg (fun z=>hk (e.trans z))]
  ·rw [bG e,bG e,ih]
theorem iR (kvs:List (κ×V)) (k j:κ) (y:V):aW (putK kvs k y) j=if j=k then some y else aW kvs j:=by
 unfold putK
 by_cases a:(kvs.any fun kv=>decide (kv.1=k))=true
 ·rw [if_pos a,iF]
  rw [cK] at a
  by_cases e:j=k
  ·obtain⟨x,hx⟩:=Option.isSome_iff_exists.mp a
   rw [if_pos e,e,hx,Option.map_some,if_pos rfl]
  ·rw [if_neg e]
   cases aW kvs j with
   | none=>rfl
   | some x=>rw [Option.map_some,if_neg e]
 ·rw [if_neg a]
  refine gR k j y kvs ?_
  rw [cK] at a
  cases q:aW kvs k with
  | none=>rfl
  | some x=>rw [q] at a;exact (a rfl).elim
theorem dD (kvs:List (κ×V)) (k:κ) (v:V):(putK kvs k v).length<=kvs.length + 1:=by
 unfold putK
 split
 ·rw [List.length_map];omega
 ·rw [List.length_append,List.length_cons,List.length_nil];omega
theorem bE.isSome_eq {o:Option V}{u:Option Value} (r:bE o u):o.isSome=u.isSome:=by
 cases o with
 | none=>cases u with
  | none=>rfl
  | some _=>exact (show False from r).elim
 | some _=>cases u with
  | none=>exact (show False from r).elim
  | some _=>rfl
theorem bE.getD {o:Option V}{u:Option Value}{d:V}{d':Value} (r:bE o u) (rd:RelV d d'):RelV (o.getD d) (u.getD d'):=by
 cases o with
 | none=>cases u with
  | none=>exact rd
  | some _=>exact (show False from r).elim
 | some _=>cases u with
  | none=>exact (show False from r).elim
  | some _=>exact r
theorem KV.val {kvs:List (κ×V)}{vs:List (κ×Value)} (r:KV kvs vs) (k:κ):bE (aW kvs k) (valueAt vs k):=by
 unfold KV at r
 induction r with
 | nil=>exact True.intro
 | @cons p q ps qs h t ih =>
  obtain⟨h1,h2⟩:=h
  by_cases e:p.1=k
  ·have e':q.1=k:=h1.symm.trans e
   have b:valueAt (q::qs) k=some q.2:=by simp [valueAt,List.find?_cons,e']
   rw [bF e,b];exact h2
  ·have e':¬ q.1=k:=fun z=>e (h1.trans z)
   have b:valueAt (q::qs) k=valueAt qs k:=by simp [valueAt,List.find?_cons,e']
   rw [bG e,b];exact ih
theorem KV.any {kvs:List (κ×V)}{vs:List (κ×Value)} (r:KV kvs vs) (k:κ):(kvs.any fun kv=>decide (kv.1=k))=vs.any fun kv=>decide (kv.1=k):=by
 unfold KV at r
 induction r with
 | nil=>rfl
 | cons h t ih=>rw [List.any_cons,List.any_cons,ih,h.1]
theorem KV.repl {kvs:List (κ×V)}{vs:List (κ×Value)} (r:KV kvs vs) (k:κ) {y:V}{u:Value} (ry:RelV y u) :
  KV (kvs.map fun kv=>if kv.1=k then (kv.1,y) else kv) (vs.map fun kv=>if kv.1=k then (kv.1,u) else kv):=by
 unfold KV at r ⊢
 induction r with
 | nil=>exact .nil
 | @cons p q ps qs h t ih =>
  rw [List.map_cons,List.map_cons]
  refine .cons ?_ ih
  obtain⟨h1,h2⟩:=h
  by_cases e:p.1=k
  ·rw [if_pos e,if_pos (h1.symm.trans e)];exact⟨h1,ry⟩
  ·rw [if_neg e,if_neg (fun z=>e (h1.trans z))];exact⟨h1,h2⟩
theorem KV.put {kvs:List (κ×V)}{vs:List (κ×Value)} (r:KV kvs vs) (k:κ) {y:V}{u:Value} (ry:RelV y u):KV (putK kvs k y) (stored vs k u):=by
 unfold putK stored
 rw [r.any k]
 by_cases e:(vs.any fun kv=>decide (kv.1=k))=true
 ·rw [if_pos e,if_pos e];exact r.repl k ry
 ·rw [if_neg e,if_neg e];exact Paired.snoc r ⟨rfl,ry⟩
theorem KV.length {kvs:List (κ×V)}{vs:List (κ×Value)} (r:KV kvs vs):kvs.length=vs.length:=Paired.length r
end
theorem dR {P:Program}{w:World}{k:Key}{u:Value} (r:RelV (kV k) u):(bt P w).is k u=true:=by
 cases k with
 | inl i=>obtain⟨t,e⟩:=(show ∃t,u=Value.int i t from r);subst e;exact lh P w i t
 | inr x=>obtain⟨t,e⟩:=(show ∃t,u=Value.str x t from r);subst e;exact lq P w x t
theorem gS {P:Program}{w:World}:∀{ks:List Key}{us:List Value},am (ks.map kV) us->ItemsAre (bt P w) ks us
 | [],_,r=>by rw [List.map_nil] at r;cases r;exact .nil
 | k::ks,_,r=>by
  rw [List.map_cons] at r
  cases r with
  | cons h t=>exact .cons (dR h) (gS t)
noncomputable abbrev KT (H:Hp):List (List Key×V)->List (List Key×Addr×Value)->Prop:=Paired fun p q=>p.1=q.1/\H q.2.1=some (.tup (p.1.map kV))/\RelV p.2 q.2.2
theorem KT.val {H:Hp}{kvs:List (List Key×V)}{xs:List (List Key×Addr×Value)} (r:KT H kvs xs) (k:List Key):bE (aW kvs k) ((atKey xs k).map (·.2)):=by
 induction r with
 | nil=>exact True.intro
 | @cons p q ps qs h t ih =>
  obtain⟨h1,_,h2⟩:=h
  by_cases e:p.1=k
  ·have e':q.1=k:=h1.symm.trans e
   have b:atKey (q::qs) k=some q.2:=by simp [atKey,List.find?_cons,e']
   rw [bF e,b];exact h2
  ·have e':¬ q.1=k:=fun z=>e (h1.trans z)
   have b:atKey (q::qs) k=atKey qs k:=by simp [atKey,List.find?_cons,e']
   rw [bG e,b];exact ih
theorem KT.repl {H:Hp}{kvs:List (List Key×V)}{xs:List (List Key×Addr×Value)} (r:KT H kvs xs) (k:List Key) {y:V}{u:Value} (ry:RelV y u) :
  KT H (kvs.map fun kv=>if kv.1=k then (kv.1,y) else kv) (xs.map (putAt k u)):=by
 induction r with
 | nil=>exact .nil
 | @cons p q ps qs h t ih =>
  rw [List.map_cons,List.map_cons]
  refine .cons ?_ ih
  obtain⟨h1,h2,h3⟩:=h
  unfold putAt
  by_cases e:p.1=k
  ·rw [if_pos e,if_pos (h1.symm.trans e)];exact⟨h1,h2,ry⟩
  ·rw [if_neg e,if_neg (fun z=>e (h1.trans z))];exact⟨h1,h2,h3⟩
theorem KT.put {H:Hp}{kvs:List (List Key×V)}{xs:List (List Key×Addr×Value)} (r:KT H kvs xs) (k:List Key) {b:Addr}{y:V}{u:Value} (hb:H b=some (.tup (k.map kV))) (ry:RelV y u) :
  KT H (putK kvs k y) (storedH xs k b u):=by
 have e:(kvs.any fun kv=>decide (kv.1=k))=(atKey xs k).isSome:=by
  rw [cK,(r.val k).isSome_eq,Option.isSome_map]
 unfold putK storedH
 rw [e]
 by_cases q:(atKey xs k).isSome=true
 ·rw [if_pos q,if_pos q];exact r.repl k ry
 ·rw [if_neg q,if_neg q];exact Paired.snoc r ⟨rfl,hb,ry⟩
theorem KT.keeps {H H':Hp}{kvs:List (List Key×V)}{xs:List (List Key×Addr×Value)} (r:KT H kvs xs) (ht:∀b ys,H b=some (.tup ys)->H' b=some (.tup ys)):KT H' kvs xs :=
 Paired.mapP r fun _ _ z=>⟨z.1,ht _ _ z.2.1,z.2.2⟩
section
variable {P:Program}{w:World}{H:Hp}{h:Heap}{a:Addr}
theorem jQ {u:HO} (ok:HOk P w H h) (e:Rd H a u):aC P w H h a u:=e.ok ok
theorem dv {kvs:List (Key×V)} (ok:HOk P w H h) (e:Rd H a (.dK kvs)):kvs.length<=sizeLine/\(a == sysModules)=false/\∃vs,KV kvs vs/\h.DictOf (bt P w) a vs :=
 show aC P w H h a (.dK kvs) from jQ ok e
theorem ka {kvs:List (Key×V)} (ok:HOk P w H h) (e:H a=some (.dK kvs)):kvs.length<=sizeLine/\(a == sysModules)=false/\∃vs,KV kvs vs/\h.DictOf (bt P w) a vs:=dv ok (.inl e)
theorem dP {ks:List Key} (ok:HOk P w H h) (e:H a=some (.tup (ks.map kV))):(tupleKind (bt P w)).is h ks a:=by
 obtain⟨_,its,r,o,h1,h2,n,h3⟩:=(show aC P w H h a (.tup (ks.map kV)) from ok a _ e)
 exact⟨o,its.toArray,n,h1,h2,h3,by simpa using gS r⟩
theorem cY {kvs:List (List Key×V)} (ok:HOk P w H h) (e:Rd H a (.dT kvs)):kvs.length<=sizeLine/\(a == sysModules)=false /\
  ∃xs,KT H kvs xs/\h.DictOfH (tupleKind (bt P w)) a xs:=by
 obtain⟨z,y,xs,r,o,es,ep,h1,h2,h3,h4,h5⟩:=(show aC P w H h a (.dT kvs) from jQ ok e)
 refine⟨z,y,xs,r,o,es,ep,h1,h2,h3,h4,fun x hx=>?_,h5⟩
 have all:∀{l:List (List Key×V)}{m:List (List Key×Addr×Value)},KT H l m->∀x∈m,(tupleKind (bt P w)).is h x.1 x.2.1:=by
  intro l m q
  induction q with
  | nil=>intro x hx;exact nomatch hx
  | @cons p q ps qs hq t ih =>
   intro x hx
   rcases List.mem_cons.mp hx with e | hx
   ·subst e
    exact dP ok (by rw [<- hq.1];exact hq.2.1)
   ·exact ih x hx
 exact all r x hx
theorem jY {kvs:List (List Key×V)} (ok:HOk P w H h) (e:H a=some (.dT kvs)):kvs.length<=sizeLine/\(a == sysModules)=false /\
  ∃xs,KT H kvs xs/\h.DictOfH (tupleKind (bt P w)) a xs:=cY ok (.inl e)
end
noncomputable def cG (H:Hp) (a:Addr) (y:V) (r:Option V):Prop :=
 (∃kvs k,Rd H a (.dK kvs)/\y=kV k/\r=aW kvs k)\/∃kvs k b,Rd H a (.dT kvs)/\y=.ref b/\H b=some (.tup (k.map kV))/\r=aW kvs k
noncomputable def kJ (H:Hp) (a:Addr) (y v:V) (H':Hp):Prop :=
 (∃kvs k,H a=some (.dK kvs)/\y=kV k/\kvs.length < sizeLine/\H'=upd H a (.dK (putK kvs k v))) \/
 ∃kvs k b,H a=some (.dT kvs)/\y=.ref b/\H b=some (.tup (k.map kV))/\kvs.length < sizeLine/\H'=upd H a (.dT (putK kvs k v))
section
variable {X:Cx}{pins:List (Addr×Obj)}{σ:St}{H:Hp}{s:Shared}{a:Addr}{y v:V}{u r:Value}{o:Option V}{A:Around}{E:Value->Shared->Prop}
theorem Inv.big (I:Inv X pins σ H s):sysModules < s.heap.objs.size:=by
 have h:mainGlobals < s.heap.objs.size:=(I.mod.glob.keeps I.bk).lt
 exact Nat.lt_trans (by decide) h
theorem mD {Q:Value->Shared->Prop} (hu:A.units + 1 < cLine) (I:Inv X pins σ H s) (g:cG H a y (some v)) (ry:RelV y u) (h:∀w' s',Inv X pins σ H s'->RelV v w'->Q w' s') :
  wpAny (model X.prog X.w) A (getItem (.ref a) u) Q E s:=by
 rcases g with ⟨kvs,k,e,ey,l⟩ | ⟨kvs,k,b,e,ey,eb,l⟩
 ·subst ey
  obtain⟨z,hd,vs,rel,dd⟩:=dv I.hok e
  obtain⟨w',hw,rw'⟩:=bE.some_of (v:=v) (o:=valueAt vs k) (by rw [l];exact rel.val k)
  exact wpAny_getItem_of (dR ry) dd.mapOf hw (h w' _ (I.tok _) rw')
 ·subst ey
  cases (show u=Value.ref b from ry)
  obtain⟨z,hd,xs,rel,dd⟩:=cY I.hok e
  obtain⟨w',hw,rw'⟩:=bE.some_of (v:=v) (o:=(atKey xs k).map (·.2)) (by rw [l];exact rel.val k)
  obtain⟨p,hp,hp2⟩:=Option.map_eq_some_iff.mp hw
  refine wpAny_getItem_heap (tupleKind_room_in1 hu) (dP I.hok eb) dd hp ?_
  rw [hp2]
  exact h w' _ (I.tok _) rw'
theorem eF {h':Heap}{t':Nat}{ob:HO} (I:Inv X pins σ H s) (mu:Mut (H a)) (hs:Heap.SameBut a s.heap h') (he:∃q,h'.get? a=some q) (new:aC X.prog X.w (upd H a ob) h' a ob) :
  Inv X pins σ (upd H a ob) { s with heap:=h',toks:=t' } :=
 I.write (x:=a) (e:=a) mu (.inl rfl) (fun b q hb z=>(hs.2 b hb).trans z) he new
theorem jG {P:Program}{w:World}{H':Hp}{h':Heap}{kvs:List (Key×V)}{vs:List (Key×Value)} (z:kvs.length<=sizeLine) (hd:(a == sysModules)=false) (rel:KV kvs vs) (dd:h'.DictOf (bt P w) a vs) :
  aC P w H' h' a (.dK kvs):=⟨z,hd,vs,rel,dd⟩
theorem mG {H':Hp}{Q:Unit->Shared->Prop} (hu:A.units + 1 < cLine) (I:Inv X pins σ H s) (g:kJ H a y v H') (ry:RelV y u) (rv:RelV v r) (h:∀s',Inv X pins σ H' s'->Q () s') :
  wpAny (model X.prog X.w) A (setItem (.ref a) u r) Q E s:=by
 rcases g with ⟨kvs,k,e,ey,l,eH⟩ | ⟨kvs,k,b,e,ey,eb,l,eH⟩
 ·subst ey eH
  obtain⟨z,hd,vs,rel,dd⟩:=ka I.hok e
  have hz:vs.length<=sizeLine:=by rw [<- rel.length];exact z
  have hl:(putK kvs k v).length<=sizeLine:=by have:=dD kvs k v;omega
  refine wpAny_setItem_pairs (hsz:=hz) (dR ry) dd fun h' dd' hs=>h _ ?_
  have he:∃q,h'.get? a=some q:=let ⟨q,_,_,hq,_⟩:=dd';⟨q,hq⟩
  exact eF I (by rw [e];exact True.intro) hs he (jG hl hd (rel.put k rv) dd')
 ·subst ey eH
  cases (show u=Value.ref b from ry)
  obtain⟨z,hd,xs,rel,dd⟩:=jY I.hok e
  have hz:xs.length<=sizeLine:=by rw [<- Paired.length rel];exact z
  have hl:(putK kvs k v).length<=sizeLine:=by have:=dD kvs k v;omega
  refine wpAny_setItem_heap (hsz:=hz) (tupleKind_room_in1 hu) (dP I.hok eb) dd fun h' dd' hs=>h _ ?_
  obtain⟨q,es,ep,hq,h2,h3,h4,_,h5⟩:=dd'
  refine eF I (by rw [e];exact True.intro) hs ⟨q,hq⟩ ⟨hl,hd,_,(rel.put k eb rv).keeps fun c ys ec=>?_,q,es,ep,hq,h2,h3,h4,h5⟩
  rw [ag (fU ec e (fun z=>nomatch z))]
  exact ec
end
section
variable {X:Cx}{pins:List (Addr×Obj)}{σ:St}{H:Hp}{s:Shared}{a:Addr}{kvs:List (Key×V)}{k:Key}{u:Value}{A:Around}{E:Value->Shared->Prop}
theorem qi {Q:Value->Shared->Prop} (I:Inv X pins σ H s) (e:Rd H a (.dK kvs)) (h:∀t s',Inv X pins σ H s'->Q (.int kvs.length t) s'):wpAny (model X.prog X.w) A (call (.builtin "len") [.ref a]) Q E s:=by
 obtain⟨z,hd,vs,rel,dd⟩:=dv I.hok e
 refine call_len_dict hd dd (by rw [<- rel.length];rw [sizeLine_eq] at z;omega) ?_
 rw [<- rel.length]
 exact h _ _ (I.tok _)
end
noncomputable def kD (i:Expr):Prop:=∀ov iv,subscripted i false ov iv=operate [ov,iv] (getItem ov iv)
theorem og {prog:Program}{w:World}{A:Around}{E:Value->Shared->Prop}{s:Shared}{env:Env}{value slice:Expr}{pos:Pos}{T id:String}{Q:Value->Shared->Prop}
  (hl:typeLookup (.type T) "__getitem__"=pure (some (.builtin id))) (hs:kD slice)
  (h:wpAny (model prog w) A (eval value env) (fun o s₁=>wpAny (model prog w) A (eval slice env) (fun i s₂=>s₂.TypeIs o T/\wpAny (model prog w) A (getItem o i) Q E s₂) E s₁) E s) :
  wpAny (model prog w) A (eval (.Subscript value slice pos) env) Q E s:=by
 refine Subscript_ (wpAny_mono h (fun o s₁ h₁=>wpAny_mono h₁ (fun i s₂ h₂=>?_) fun _ _ x=>x) fun _ _ x=>x)
 obtain⟨hT,h₂⟩:=h₂
 unfold subscriptTail
 refine wpAny_bind ?_
 rw [getitemInPython_of_ne hT.not_modules]
 refine wpAny_bind (wpAny_specialOf hT hl ?_)
 have fin:wpAny (model prog w) A (subscripted slice false o i) (fun r s₃=>wpAny (model prog w) A (letTemporaryGo value o r >>= fun _=>pure r) Q E s₃) E s₂:=by
  rw [hs o i]
  exact wpAny_operating (wpAny_mono h₂ (fun r s₃ h₃=>wpAny_bind (wpAny_letTemporaryGo (wpAny_pure h₃))) fun _ _ x=>x)
 first
  | exact wpAny_pure (wpAny_bind fin)
  | exact wpAny_bind (wpAny_pure (wpAny_bind fin))
  | exact wpAny_bind fin
theorem lr {X:Cx}{pins:List (Addr×Obj)}{σ:St}{H:Hp}{s:Shared}{a:Addr}{y:V}{o:Option V} (I:Inv X pins σ H s) (g:cG H a y o):s.TypeIs (.ref a) "dict":=by
 rcases g with ⟨kvs,k,e,_,_⟩ | ⟨kvs,k,b,e,_,_,_⟩
 ·obtain⟨_,_,vs,_,dd⟩:=dv I.hok e
  exact dd.typeIs
 ·obtain⟨_,_,xs,_,dd⟩:=cY I.hok e
  exact dd.typeIs
noncomputable def qu (td ty:TE):TE:=fun σ H Q=>td σ H fun x H1=>ty σ H1 fun y H2=>∃a v,x=.ref a/\cG H2 a y (some v)/\Q v H2
noncomputable def qP (td ty tv:TE):TS:=fun D σ H=>tv σ H fun v H1=>td σ H1 fun x H2=>ty σ H2 fun y H3=>∃a H4,x=.ref a/\kJ H3 a y v H4/\D.nx σ H4
section
variable {X:Cx}{o i e value:Expr}{pos pos' tpos:Pos}{td ty tv:TE}
theorem di (hu:X.A.units + 1 < cLine) (ho:PE X o td) (hi:PE X i ty) (hs:kD i):PE X (.Subscript o i pos) (qu td ty):=by
 intro pins s σ H Q I h
 refine og PySem.F.slot_dict_getitem.lookup hs (thn (ho pins s σ H _ I h) fun u s1 ⟨x,H1,I1,rx,q1⟩=>thn (hi pins s1 σ H1 _ I1 q1) fun iv s2 ⟨y,H2,I2,ry,a,v,ex,g,q2⟩=>?_)
 subst ex
 obtain rfl:u=Value.ref a:=rx
 exact⟨lr I2 g,mD hu I2 g ry fun w' s3 I3 rw'=>⟨v,H2,I3,rw',q2⟩⟩
theorem oH (hu:X.A.units + 1 < cLine) (ho:PE X o td) (hi:PE X i ty) (hv:PE X value tv) (hs:swapsWith value (some (.Subscript o i pos')) pos.line X.env=pure false) :
  PS X (.Assign [.Subscript o i pos'] value pos) (qP td ty tv):=by
 intro pins s σ H D I h
 refine wpAny_Assign_Subscript (thn (hv pins s σ H _ I h) fun r s1 ⟨v,H1,I1,rv,q1⟩=>thn (ho pins s1 σ H1 _ I1 q1) fun u s2 ⟨x,H2,I2,rx,q2⟩=>thn (hi pins s2 σ H2 _ I2 q2) fun iv s3 ⟨y,H3,I3,ry,a,H4,ex,g,q3⟩=>?_) hs
 subst ex
 obtain rfl:u=Value.ref a:=rx
 exact mG hu I3 g ry rv fun s4 I4=>⟨σ,H4,I4,q3⟩
end
theorem nC {P:Program}{w:World}{H:Hp} (h:Heap) (hb:sysModules < h.objs.size):aC P w H (h.push { cls:=.type "dict",data:=.dict #[] }) h.objs.size (.dK []) :=
 ⟨Nat.zero_le _,beq_eq_false_iff_ne.mpr (Ne.symm (Nat.ne_of_lt hb)),[],.nil,Heap.DictOf.new h⟩
theorem iO {P:Program}{w:World}{H:Hp} (h:Heap) (hb:sysModules < h.objs.size):aC P w H (h.push { cls:=.type "dict",data:=.dict #[] }) h.objs.size (.dT []) :=
 ⟨Nat.zero_le _,beq_eq_false_iff_ne.mpr (Ne.symm (Nat.ne_of_lt hb)),[],.nil,_,#[],0,Heap.get?_push_size _ rfl,⟨rfl,rfl,rfl⟩,rfl,rfl,List.nodup_nil⟩
noncomputable def pW:TE:=fun _ H Q=>∀p,H p=none->Q (.ref p) (upd H p (.dT []))
section
variable {X:Cx}{pos:Pos}
theorem mN:PE X (.Dict [] [] pos) pW:=fun pins s σ H Q I h =>
 wpAny_Dict_empty ⟨.ref s.heap.objs.size,_,I.laid (a:=s.heap.objs.size) (o:=.dT []) (t':=s.toks) (fun _ _ q=>Heap.get?_push_of_some _ q) (Nat.le_refl _) (iO s.heap I.big),rfl,h _ (I.hok.fresh (Nat.le_refl _))⟩
end
section
variable {prog:Program}{w:World}{A:Around}{R:Result->Shared->Prop}{s:Shared}
theorem oO {kx vx tg iter:Expr}{ifs:List Expr}{scope:Scope}{pos:Pos}{it:Value}{D:Addr}{env:Env} (J:Nat->Shared->Prop)
  (turn:∀n s,J n s->wpAny (model prog w) A (pyNext it) (fun r s1=>match r with
   | none=>R (.ok .next) s1
   | some v=>wpAny (model prog w) A (letOwnedTupleGo tg it v) (fun _ s2=>wpAny (model prog w) A (assign tg env v) (fun _ s3 =>
     wpAny (model prog w) A (forIn ifs true fun c r=>if r=true then do let ok <- isTrue c env (eval c env);pure (ForInStep.yield ok) else pure (ForInStep.yield r)) (fun ok s4 =>
      if ok=true then wpAny (model prog w) A (eval kx env) (fun y s5=>wpAny (model prog w) A (eval vx env) (fun x s6=>wpAny (model prog w) A (dictSet D y x) (fun _ s7=>∃m,m < n/\J m s7) (fun _ _=>False) s6) (fun _ _=>False) s5) (fun _ _=>False) s4
      else ∃m,m < n/\J m s4) (fun _ _=>False) s3) (fun _ _=>False) s2) (fun _ _=>False) s1) (fun _ _=>False) s)
  (n:Nat) (h:J n s):codeAny (model prog w) A (.compLoop (.DictComp kx vx [⟨tg,iter,ifs,0⟩] scope pos) 0 it (.ref D) env) R s:=by
 refine codeAny_loop rfl J (fun k t hJ=>?_) n h
 show wpAny _ A ((compTurn (.DictComp kx vx [⟨tg,iter,ifs,0⟩] scope pos) 0 it (.ref D) env).onRaise (fun x=>do noteFrame x env;theTreesLotGoes x)) _ _ t
 refine wpAny_noted (wpAny_mono (E:=fun _ _=>False) ?_ (fun _ _ q=>q) fun _ _ f=>f.elim)
 rw [compTurn_dict]
 refine wpAny_bind (wpAny_standAt (wpAny_bind (thn (turn k t hJ) fun r s1 h1=>?_)))
 cases r with
 | none=>exact wpAny_pure h1
 | some v =>
  refine wpAny_bind (thn h1 fun _ s2 h2=>wpAny_bind (thn h2 fun _ s3 h3=>wpAny_bind (thn h3 fun ok s4 h4=>?_)))
  cases ok with
  | false=>exact wpAny_pure ⟨rfl,h4⟩
  | true=>exact wpAny_bind (wpAny_bind (thn h4 fun y s5 h5=>wpAny_bind (wpAny_holding (thn h5 fun x s6 h6=>wpAny_bind (wpAny_standAt (wpAny_holding (thn h6 fun _ s7 h7=>wpAny_pure ⟨rfl,h7⟩)))))))
end
noncomputable def qB (H:Hp) (a:Addr) (y v:V) (H':Hp):Prop:=∃kvs k b,H a=some (.dT kvs)/\y=.ref b/\H b=some (.tup (k.map kV))/\kvs.length < sizeLine/\H'=upd H a (.dT (putK kvs k v))
theorem mi {X:Cx}{pins:List (Addr×Obj)}{σ:St}{H H':Hp}{s:Shared}{a:Addr}{y v:V}{u r:Value}{A:Around}{E:Value->Shared->Prop}{Q:Unit->Shared->Prop} (hu:A.units < cLine) (I:Inv X pins σ H s) (g:qB H a y v H') (ry:RelV y u) (rv:RelV v r) (h:∀s',Inv X pins σ H' s'->Q () s') :
  wpAny (model X.prog X.w) A (dictSet a u r) Q E s:=by
 obtain⟨kvs,k,b,e,ey,eb,l,eH⟩:=g
 subst ey eH
 cases (show u=Value.ref b from ry)
 obtain⟨z,hd,xs,rel,dd⟩:=jY I.hok e
 have hz:xs.length<=sizeLine:=by rw [<- Paired.length rel];exact z
 have hl:(putK kvs k v).length<=sizeLine:=by have:=dD kvs k v;omega
 refine wpAny_dictSet_heap (hsz:=hz) (show (tupleKind (bt X.prog X.w)).room A from hu) (dP I.hok eb) dd (fun h' dd' hs=>h _ ?_)
 obtain⟨q,es,ep,hq,h2,h3,h4,_,h5⟩:=dd'
 refine eF I (by rw [e];exact True.intro) hs ⟨q,hq⟩ ⟨hl,hd,_,(rel.put k eb rv).keeps fun c ys ec=>?_,q,es,ep,hq,h2,h3,h4,h5⟩
 rw [ag (fU ec e (fun z=>nomatch z))]
 exact ec
theorem nL {b D C:Nat} (h:b < D) (e:C=D + 1) (z:b=C):False:=by omega
section
variable {X:Cx}{scope:Scope}{N:List Str}{ix:List (Option Nat)}
theorem o6 {pins pins':List (Addr×Obj)}{σ σ':St}{H2 H':Hp}{s2 s':Shared}{C:Addr}{fp:List Addr}{h':Heap} (I2:Inv X pins σ H2 s2) (hf:∀b∈fp,br X pins H2 b)
  (I':Inv (aA X scope N C s2 H2 fp) pins' σ' H' s') (hC:s2.heap.objs.size<=C) (hs:∀b o,b≠C->s'.heap.get? b=some o->h'.get? b=some o):Inv X pins σ H' { s' with heap:=h' }:=by
 have B:Un (frs X.stack) fp H2 H' s2.heap s'.heap:=I'.base
 have neC:∀b o,s2.heap.get? b=some o->b≠C:=fun b o e=>Nat.ne_of_lt (Nat.lt_of_lt_of_le (Heap.lt_size e) hC)
 have hCn:H' C=none:=I'.free
 have tC:∀b u,H' b=some u->b≠C:=fun b u e=>ax e hCn
 refine I2.call' (s':={ s' with heap:=h' }) (ch:=fp) I'.os ⟨fun b o e n hb hx=>?_,fun b o e n hb hx=>?_,fun b o e n hx=>?_,fun b o e hx=>?_,fun b xs e=>?_,fun b o u e=>?_,fun b ps e=>?_⟩ (fun b u e=>?_) I'.bare fun b hb=>⟨(hf b hb).2.2.2.1,(hf b hb).2.1,(hf b hb).2.2.2.2.1,(hf b hb).2.2.2.2.2⟩
 ·exact hs b o (neC b o e) (B.keep b o e n hb hx)
 ·obtain⟨sl,q⟩:=B.slot b o e n hb hx
  exact⟨sl,hs b _ (neC b o e) q⟩
 ·exact B.free b o e n hx
 ·obtain⟨o',q⟩:=B.there b o e hx
  exact⟨o',hs b o' (neC b o e) q⟩
 ·exact B.tups b xs e
 ·exact B.frzs b o u e
 ·exact B.tbls b ps e
 ·refine (I'.hok b u e).stay (fun c v hc q=>hs c v ?_ q) (fun c q=>q) fun c xs q=>q
  rcases hc with z | z
  ·rw [z];exact tC b u e
  ·exact tC c _ z
variable {tg iter kx vx:Expr}{ifs:List Expr}{pos:Pos}{g:TG}{tt:TT}{tk tv:TE}
end
inductive fK (A:Around) (s:Shared):List (Value×Value)->List (Bool×Bool)->Prop
 | nil:fK A s [] []
 | cons {v u:Value}{e b:Bool}{r:List (Value×Value)}{cs:List (Bool×Bool)}:SeqAt.EqAt A s v u e ->
   (e=false->∀(prog:Program) (w:World) (E:Value->Shared->Prop) (Q:Value->Shared->Prop),Q (.bool b) s->wpAny (model prog w) A (richCompare .Lt v u) Q E s)->fK A s r cs->fK A s ((v,u)::r) ((e,b)::cs)
section
open PySem.SeqAt
open PySem.AutoSeq1 (wpAny_loadPart')
open PySem.MeetsSeq PySem.MeetsSeq2 PySem.MeetsSeq3
end
section
variable {prog:Program}{w:World}{A:Around}{E:Value->Shared->Prop}{s:Shared}
end
section
variable {prog:Program}{w:World}{A:Around}{R:Result->Shared->Prop}{I:Addr}{fp wr:List Addr}{n:Nat}{P:Nat->Value->Prop}{St:Nat->Heap->Prop}
end
section
variable {prog:Program}{w:World}{A:Around}{E:Value->Shared->Prop}{s:Shared}
end
section
variable {X:Cx}
theorem ip:bj X (.builtin "abs") (fun xs H Q=>∃i,xs=[.int i]/\Q (.int (if i < 0 then -i else i)) H):=by
 intro pins s σ H xs us Q I r h
 obtain⟨i,rfl,q⟩:=h
 obtain⟨u,rfl,⟨t,rfl⟩⟩:=vals1 r
 exact call_abs_int fun u tk=>⟨.int (if i < 0 then -i else i),H,I.tok tk,⟨_,rfl⟩,q⟩
theorem gQ:MtR X "list.index" (fun x xs H Q=>∃(p:Addr) (ss:List Str) (j:Nat) (y:Str),x=.ref p/\xs=[.str y]/\SqL X.K H p (ss.map V.str)/\ss.length<=1000/\ss[j]?=some y/\(∀m,m < j->ss[m]?≠some y)/\Q (.int j) H):=by
 intro pins s σ H x xs v us Q I rx rs h
 obtain⟨p,ss,j,y,rfl,rfl,hq,hz,hj,hno,q⟩:=h
 cases rx
 obtain⟨u,rfl,ry⟩:=vals1 rs
 obtain⟨its,rv,pl,_⟩:=I.list hq
 obtain⟨⟨cl,dc,da,sl⟩,n,ho,hcl,hdc,hda⟩:=pl
 simp only at hcl hdc hda
 subst hcl hdc hda
 have hl:=rv.length
 rw [List.length_map] at hl
 have fl:(ss.map V.str).all bL=true:=by rw [List.all_map];simp [bL,Function.comp_def]
 have hjl:j < ss.length:=(List.getElem?_eq_some_iff.mp hj).1
 have eq:∀m (hm:m < its.length),eqU (.str y) its[m]=decide (ss[m]?=some y):=fun m hm=>by
  have hm':m < ss.length:=by omega
  obtain⟨w',hw,rw'⟩:=rv.get (i:=m) (x:=.str ss[m]) (by rw [List.getElem?_map,List.getElem?_eq_getElem hm'];rfl)
  rw [List.getElem?_eq_getElem hm] at hw
  cases hw
  rw [fR rw' rfl,List.getElem?_eq_getElem hm']
  by_cases e:ss[m]=y
  ·rw [e];simp [eqV]
  ·simp [eqV,e]
 refine call_meets F.slot_list_index ⟨_,ho,rfl⟩ F.entry_list_index (F.args_list_index_2 _ _)
  (SeqAt.list_indexAt p its.toArray n none sl u (eqU (.str y)) j (by simpa [<- hl] using hjl) (by omega) ?_ ?_) ⟨ho,fun w' hw=>de ry rfl rv fl w' (by simpa using hw),⟨.int j,H,I.tok _,⟨_,rfl⟩,q⟩⟩
 ·show eqU (.str y) its[j]=true
  rw [eq j (by omega),hj]
  simp
 ·intro m hm hlt
  show eqU (.str y) its[m]=false
  rw [eq m (by simpa using hm)]
  exact decide_eq_false (hno m hlt)
end
section
variable {prog:Program}{w:World}{A:Around}{E:Value->Shared->Prop}{s:Shared}
theorem fF {c t:Addr}{i:Nat}{its:Array Value}{v:Value}{Q:Value->Shared->Prop} (hi:s.heap.IsTupleIter c t i) (ht:s.heap.IsTuple t its) (hv:its[i]?=some v)
  (k:∀G,G.IsTupleIter c t (i + 1)->Heap.SameBut c s.heap G->Q v { s with heap:=G }):wpAny (model prog w) A (Builtin.SmallTypes.nextOf (.ref c)) Q E s:=by
 obtain⟨o,e,cl,d⟩:=id hi
 obtain⟨o2,e2,_,n2,d2⟩:=ht
 unfold Builtin.SmallTypes.nextOf
 refine wpAny_bind (wpAny_callSpecial?_slot (name:=Str.ofString "__next__") hi.typeIs F.slot_tuple_iterator_next (wpAny_call_entry F.slot_tuple_iterator_next hi.typeIs F.entry_tuple_iterator_next ?_ (F.args_tuple_iterator_next_1 _)))
 refine (show wpAny _ _ (field (.ref c) 0 >>= _) _ _ s from wpAny_bind (wpAny_field e d (x:=.ref t) rfl ?_))
 refine (show wpAny _ _ (if (Value.ref t == Value.none)=true then _ else _) _ _ s from ?_);rw [if_neg (show ¬ ((Value.ref t == Value.none)=true) from Bool.false_ne_true)]
 refine (show wpAny _ _ (field (.ref c) 1 >>= _) _ _ s from wpAny_bind (wpAny_field e d (x:=.int i 0) rfl ?_))
 refine (show wpAny _ _ (seqItems? (.ref t) >>= _) _ _ s from wpAny_bind (wpAny_seqItems e2 d2 ?_));simp only [Int.toNat_natCast,hv]
 refine wpAny_bind (wpAny_setField e d (by simp) (wpAny_pure ⟨v,rfl,wpAny_pure (k _ ⟨_,Heap.get?_update_self _ e (Obj.isFreed_of_fields (Obj.data_mapFields d _)),(Obj.cls_mapFields ..).trans cl,by rw [Obj.data_mapFields d];simp [rawInt]⟩ (Heap.SameBut.update ..))⟩))
theorem jz {c t:Addr}{i:Nat}{its:Array Value}{Q:Value->Shared->Prop} (hh:A.handled=none) (hi:s.heap.IsTupleIter c t i) (ht:s.heap.IsTuple t its) (hv:its[i]?=none)
  (k:∀G x,Heap.ExtBut c s.heap G->(∃o,G.get? x=some o/\o.cls=.type "StopIteration")->E (.ref x) { s with heap:=G }):wpAny (model prog w) A (Builtin.SmallTypes.nextOf (.ref c)) Q E s:=by
 obtain⟨o,e,cl,d⟩:=id hi
 obtain⟨o2,e2,_,n2,d2⟩:=ht
 unfold Builtin.SmallTypes.nextOf
 refine wpAny_bind (wpAny_callSpecial?_slot (name:=Str.ofString "__next__") hi.typeIs F.slot_tuple_iterator_next (wpAny_call_entry F.slot_tuple_iterator_next hi.typeIs F.entry_tuple_iterator_next ?_ (F.args_tuple_iterator_next_1 _)))
 refine (show wpAny _ _ (field (.ref c) 0 >>= _) _ _ s from wpAny_bind (wpAny_field e d (x:=.ref t) rfl ?_))
 refine (show wpAny _ _ (if (Value.ref t == Value.none)=true then _ else _) _ _ s from ?_);rw [if_neg (show ¬ ((Value.ref t == Value.none)=true) from Bool.false_ne_true)]
 refine (show wpAny _ _ (field (.ref c) 1 >>= _) _ _ s from wpAny_bind (wpAny_field e d (x:=.int i 0) rfl ?_))
 refine (show wpAny _ _ (seqItems? (.ref t) >>= _) _ _ s from wpAny_bind (wpAny_seqItems e2 d2 ?_));simp only [Int.toNat_natCast,hv]
 refine wpAny_bind (wpAny_rule (wpAny_bind (wpAny_setField e d (by simp) (show wpAny _ _ (newExc (.type "StopIteration") [] >>= _) _ _ _ from wpAny_bind ?_))));simp only [newExc,newTuple]
 refine wpAny_bind (wpAny_newObj_type (wpAny_bind (m:=firstArgMember _ _) (wpAny_of_eq (a:=Value.none) (by first | rfl | (simp only [firstArgMember];rfl)) (wpAny_newObj_type ?_ (by size_fits)))) (by size_fits));simp only [raiseNew]
 refine wpAny_bind (wpAny_handled ?_);(first | rw [show A.in1.handled=none from hh] | rw [hh])
 exact wpAny_bind (wpAny_pure (wpAny_throw (k _ _ (((Heap.SameBut.update ..).extBut.push _).push _) ⟨_,Heap.get?_push_size _ rfl,rfl⟩)))
theorem nO {z TI TO i1 i2 l1 l2:Addr}{k:Nat}{xs ys:Array Value}{x y a b:Value}{Q:Option Value->Shared->Prop} (D:ZipApart z TI TO i1 i2 l1 l2) (hz:IsZip s.heap z TI TO .none) (hTI:IsPair s.heap TI (.ref i1) (.ref i2)) (hTO:IsPair s.heap TO a b)
  (h1:s.heap.IsTupleIter i1 l1 k) (h2:s.heap.IsTupleIter i2 l2 k) (t1:s.heap.IsTuple l1 xs) (t2:s.heap.IsTuple l2 ys) (hx:xs[k]?=some x) (hy:ys[k]?=some y)
  (q:∀G,IsZip G z TI TO (rawInt s.heap.objs.size)->IsPair G TO x y->G.IsTupleIter i1 l1 (k + 1)->G.IsTupleIter i2 l2 (k + 1)->IsPair G s.heap.objs.size x y->G.objs.size=s.heap.objs.size + 1 ->
   (∀c o,c≠z->c≠TO->c≠i1->c≠i2->s.heap.get? c=some o->G.get? c=some o)->Q (some (.ref s.heap.objs.size)) { s with heap:=G }):wpAny (model prog w) A (pyNext (.ref z)) Q E s:=by
 have ty:s.TypeIs (.ref z) "zip":=⟨_,hz,rfl⟩
 unfold pyNext
 refine wpAny_bind (wpAny_attempt (wpAny_callSpecial?_slot (name:=Str.ofString "__next__") ty F.slot_zip_next (wpAny_call_entry F.slot_zip_next ty F.entry_zip_next ?_ (F.args_zip_next_1 _))))
 refine (show wpAny _ _ (field (.ref z) 2 >>= _) _ _ _ from wpAny_bind (wpAny_field hz rfl (x:=.bool false) rfl ?_))
 refine (show wpAny _ _ (field (.ref z) 3 >>= _) _ _ _ from wpAny_bind (wpAny_field hz rfl (x:=.ref TI) rfl (wpAny_bind (wpAny_seqItems hTI rfl ?_))))
 refine (show wpAny _ _ (Builtin.SmallTypes.ownedTupleIsFree (.ref z) >>= _) _ _ _ from wpAny_bind ?_);unfold Builtin.SmallTypes.ownedTupleIsFree
 refine wpAny_bind (wpAny_field hz rfl (x:=.none) rfl (wpAny_pure ?_));simp only [if_true]
 refine wpAny_bind (wpAny_rule (wpAny_bind (wpAny_field hz rfl (x:=.ref TO) rfl (wpAny_bind (wpAny_setField_rec hz (by simp) fun g1 z1 s1=>?_)))))
 have z1':IsZip g1 z TI TO .ellipsis:=z1
 refine wpAny_bind ?_;simp only [List.zipIdx_cons,List.zipIdx_nil,List.forIn_cons,List.forIn_nil]
 refine wpAny_bind (wpAny_bind (wpAny_onRaise (show wpAny _ _ (Builtin.SmallTypes.nextOf (.ref i1) >>= _) _ _ _ from wpAny_bind (fF (h1.extBut s1.extBut D.i1z) (t1.at fun o e=>s1.extBut _ o D.l1z e) hx fun g2 j2 s2=>wpAny_pure ?_))))
 have o2:IsPair g2 TO a b:=s2.extBut _ _ D.TOi1 (s1.extBut _ _ D.TOz hTO)
 refine wpAny_bind (wpAny_seqItems o2 rfl (wpAny_bind (wpAny_updateSeq_pair o2 fun g3 o3 s3=>?_)))
 have o3':IsPair g3 TO x b:=o3
 refine wpAny_bind (wpAny_letGo (wpAny_pure (wpAny_bind (wpAny_bind (wpAny_onRaise (show wpAny _ _ (Builtin.SmallTypes.nextOf (.ref i2) >>= _) _ _ _ from wpAny_bind (fF (((h2.extBut s1.extBut D.i2z).extBut s2.extBut D.i12.symm).extBut s3.extBut D.TOi2.symm)
  (((t2.at fun o e=>s1.extBut _ o D.l2z e).at fun o e=>s2.extBut _ o D.l2i1 e).at fun o e=>s3.extBut _ o D.l2TO e) hy fun g4 j4 s4=>wpAny_pure ?_)))))))
 have o4:IsPair g4 TO x b:=s4.extBut _ _ D.TOi2 o3'
 refine wpAny_bind (wpAny_seqItems o4 rfl (wpAny_bind (wpAny_updateSeq_pair o4 fun g5 o5 s5=>?_)))
 have o5':IsPair g5 TO x y:=o5
 refine wpAny_bind (wpAny_letGo (wpAny_pure (wpAny_pure (wpAny_bind (wpAny_seqItems o5' rfl (wpAny_bind (wpAny_newTuple ?_)))))))
 have sz:g5.objs.size=s.heap.objs.size:=by rw [s5.1,s4.1,s3.1,s2.1,s1.1]
 have z5:IsZip g5 z TI TO .ellipsis:=s5.extBut _ _ D.TOz.symm (s4.extBut _ _ D.i2z.symm (s3.extBut _ _ D.TOz.symm (s2.extBut _ _ D.i1z.symm z1')))
 have kp:∀c o,c≠z->c≠TO->c≠i1->c≠i2->s.heap.get? c=some o->g5.get? c=some o:=fun c o n1 n2 n3 n4 e=>s5.extBut _ _ n2 (s4.extBut _ _ n4 (s3.extBut _ _ n2 (s2.extBut _ _ n3 (s1.extBut _ _ n1 e))))
 have j1:g5.IsTupleIter i1 l1 (k + 1):=((j2.extBut s3.extBut D.TOi1.symm).extBut s4.extBut D.i12).extBut s5.extBut D.TOi1.symm
 have j2':g5.IsTupleIter i2 l2 (k + 1):=j4.extBut s5.extBut D.TOi2.symm
 have lz:z < g5.objs.size:=Heap.lt_size z5
 refine (show wpAny _ _ (Builtin.SmallTypes.ownedTupleHandOut (.ref z) (.ref g5.objs.size) >>= _) _ _ _ from wpAny_bind ?_);unfold Builtin.SmallTypes.ownedTupleHandOut
 have z6:IsZip (g5.push { cls:=.type "tuple",data:=.seq #[x,y] }) z TI TO .ellipsis:=Heap.get?_push_of_some _ z5
 refine wpAny_bind (wpAny_setField_rec z6 (by simp) fun g7 z7 s7=>?_)
 have z7':IsZip g7 z TI TO (rawInt g5.objs.size):=z7
 refine wpAny_setField_rec z7' (by simp) fun g8 z8 s8=>?_
 have z8':IsZip g8 z TI TO (rawInt g5.objs.size):=z8
 have up:∀c o,c≠z->g5.get? c=some o->g8.get? c=some o:=fun c o n e=>s8.extBut _ _ n (s7.extBut _ _ n (Heap.get?_push_of_some _ e))
 have pr:IsPair g8 g5.objs.size x y:=s8.extBut _ _ (Nat.ne_of_gt lz) (s7.extBut _ _ (Nat.ne_of_gt lz) (Heap.get?_push_size _ rfl))
 have sz8:g8.objs.size=g5.objs.size + 1:=by rw [s8.1,s7.1,Heap.size_push]
 rw [sz] at z8' pr sz8
 refine wpAny_pure ⟨_,rfl,wpAny_pure (show Q (some (.ref g5.objs.size)) _ from ?_)⟩
 rw [sz]
 exact q g8 z8' (up _ _ D.TOz o5') (j1.at fun o e=>up _ o D.i1z e) (j2'.at fun o e=>up _ o D.i2z e) pr sz8 fun c o n1 n2 n3 n4 e=>up c o n1 (kp c o n1 n2 n3 n4 e)
theorem p7 {z TI TO i1 i2 l1 l2:Addr}{k:Nat}{xs:Array Value}{a b:Value}{Q:Option Value->Shared->Prop} (hh:A.handled=none) (D:ZipApart z TI TO i1 i2 l1 l2) (hz:IsZip s.heap z TI TO .none) (hTI:IsPair s.heap TI (.ref i1) (.ref i2)) (hTO:IsPair s.heap TO a b)
  (h1:s.heap.IsTupleIter i1 l1 k) (t1:s.heap.IsTuple l1 xs) (hx:xs[k]?=none)
  (q:∀G,(∀c o,c≠z->c≠TO->c≠i1->c≠i2->s.heap.get? c=some o->G.get? c=some o)->Q none { s with heap:=G }):wpAny (model prog w) A (pyNext (.ref z)) Q E s:=by
 have ty:s.TypeIs (.ref z) "zip":=⟨_,hz,rfl⟩
 unfold pyNext
 refine wpAny_bind (wpAny_attempt (wpAny_callSpecial?_slot (name:=Str.ofString "__next__") ty F.slot_zip_next (wpAny_call_entry F.slot_zip_next ty F.entry_zip_next ?_ (F.args_zip_next_1 _))))
 refine (show wpAny _ _ (field (.ref z) 2 >>= _) _ _ _ from wpAny_bind (wpAny_field hz rfl (x:=.bool false) rfl ?_))
 refine (show wpAny _ _ (field (.ref z) 3 >>= _) _ _ _ from wpAny_bind (wpAny_field hz rfl (x:=.ref TI) rfl (wpAny_bind (wpAny_seqItems hTI rfl ?_))))
 refine (show wpAny _ _ (Builtin.SmallTypes.ownedTupleIsFree (.ref z) >>= _) _ _ _ from wpAny_bind ?_);unfold Builtin.SmallTypes.ownedTupleIsFree
 refine wpAny_bind (wpAny_field hz rfl (x:=.none) rfl (wpAny_pure ?_));simp only [if_true]
 refine wpAny_bind (wpAny_rule (wpAny_bind (wpAny_field hz rfl (x:=.ref TO) rfl (wpAny_bind (wpAny_setField_rec hz (by simp) fun g1 z1 s1=>?_)))))
 have z1':IsZip g1 z TI TO .ellipsis:=z1
 refine wpAny_bind ?_;simp only [List.zipIdx_cons,List.zipIdx_nil,List.forIn_cons,List.forIn_nil]
 refine wpAny_bind (wpAny_bind (wpAny_onRaise (show wpAny _ _ (Builtin.SmallTypes.nextOf (.ref i1) >>= _) _ _ _ from wpAny_bind (jz hh (h1.extBut s1.extBut D.i1z) (t1.at fun o e=>s1.extBut _ o D.l1z e) hx fun g2 x s2 he=>?_))))
 obtain⟨oe,e1,e2⟩:=he
 have z2:IsZip g2 z TI TO .ellipsis:=s2 _ _ D.i1z.symm z1'
 have nz:x≠z:=fun w'=>by subst w';rw [z2] at e1;cases e1;simp at e2
 refine wpAny_setField_rec z2 (by simp) fun g3 _ s3=>?_
 refine wpAny_bind (wpAny_isInstance (T:="StopIteration") (b:=true) ⟨oe,s3.extBut _ _ nz e1,e2⟩ isSubtype_stop (wpAny_pure (q _ fun c o n1 _ n3 _ e=>s3.extBut _ _ n1 (s2 _ _ n3 (s1.extBut _ _ n1 e)))))
theorem mU (l1 l2:Addr) (xs ys:Array Value) :
  Meets (Builtin.«zip.__new__» ⟨[.type "zip",.ref l1,.ref l2],[]⟩) (fun _ R s=>s.heap.IsTuple l1 xs/\s.heap.IsTuple l2 ys /\
   ∃G:Heap,G=(((((s.heap.push { cls:=.type "tuple_iterator",data:=.fields #[.ref l1,.int 0 0] }).push { cls:=.type "tuple_iterator",data:=.fields #[.ref l2,.int 0 0] }).push { cls:=.type "tuple",data:=.seq #[.ref s.heap.objs.size,.ref (s.heap.objs.size + 1)] }).push { cls:=.type "tuple",data:=.seq #[.none,.none] }).push
    { cls:=.type "zip",data:=.fields #[.none,.bool false,.bool false,.ref (s.heap.objs.size + 2),.ref (s.heap.objs.size + 3)] })/\R (.ok (.ret (.ref (s.heap.objs.size + 4)))) { s with heap:=G }) :=
 .of_wp fun prog w A R s h=>by
  obtain⟨hp,g,d,tk,os⟩:=s;obtain⟨a1,a2,G,e,h⟩:=h
  have hsub:=sub_zip
  have b1:Heap.IsTuple (Shared.heap ⟨hp,g,d,tk,os⟩) l1 xs:=a1
  have b2:Heap.IsTuple (Shared.heap ⟨hp.push { cls:=.type "tuple_iterator",data:=.fields #[.ref l1,.int 0 0] },g,d,tk,os⟩) l2 ys:=a2.at fun o e=>Heap.get?_push_of_some _ e
  wp_walk using wpAny_pyIter_tuple b1,wpAny_pyIter_tuple b2
  subst e
  refine⟨_,rfl,?_⟩
  simp only [Heap.size_push]
  exact h
end
section
variable {prog:Program}{w:World}{A:Around}{E:Value->Shared->Prop}{s:Shared}
theorem oC {l1 l2:Addr}{xs ys:Array Value}{Q:Value->Shared->Prop} (t1:s.heap.IsTuple l1 xs) (t2:s.heap.IsTuple l2 ys)
  (q:∀G,IsZip G (s.heap.objs.size + 4) (s.heap.objs.size + 2) (s.heap.objs.size + 3) .none->IsPair G (s.heap.objs.size + 2) (.ref s.heap.objs.size) (.ref (s.heap.objs.size + 1))->IsPair G (s.heap.objs.size + 3) .none .none ->
   G.IsTupleIter s.heap.objs.size l1 0->G.IsTupleIter (s.heap.objs.size + 1) l2 0->G.objs.size=s.heap.objs.size + 5->(∀c o,s.heap.get? c=some o->G.get? c=some o)->Q (.ref (s.heap.objs.size + 4)) { s with heap:=G }) :
  wpAny (model prog w) A (call (.type "zip") [.ref l1,.ref l2]) Q E s:=by
 refine callType_new F.called_zip (by decide) (F.typeCall_zip_2 _ _) (F.newCall_zip_2 _ _) (fun obj=>F.args_object_init_3 obj _ _) F.entry_zip_new (mU l1 l2 xs ys) ⟨t1,t2,_,rfl,?_⟩
 have at':∀(h:Heap) (o:Obj) (n:Nat),h.objs.size=n->o.isFreed=false->(h.push o).get? n=some o:=fun h o n e f=>by rw [<- e];exact Heap.get?_push_size _ f
 have kp:∀{h:Heap}{o:Obj}{c:Addr}{v:Obj},h.get? c=some v->(h.push o).get? c=some v:=fun e=>Heap.get?_push_of_some _ e
 have g5:=at' ((((s.heap.push { cls:=.type "tuple_iterator",data:=.fields #[.ref l1,.int 0 0] }).push { cls:=.type "tuple_iterator",data:=.fields #[.ref l2,.int 0 0] }).push { cls:=.type "tuple",data:=.seq #[.ref s.heap.objs.size,.ref (s.heap.objs.size + 1)] }).push { cls:=.type "tuple",data:=.seq #[.none,.none] })
  { cls:=.type "zip",data:=.fields #[.none,.bool false,.bool false,.ref (s.heap.objs.size + 2),.ref (s.heap.objs.size + 3)] } (s.heap.objs.size + 4) (by simp only [Heap.size_push]) rfl
 have g4:=at' (((s.heap.push { cls:=.type "tuple_iterator",data:=.fields #[.ref l1,.int 0 0] }).push { cls:=.type "tuple_iterator",data:=.fields #[.ref l2,.int 0 0] }).push { cls:=.type "tuple",data:=.seq #[.ref s.heap.objs.size,.ref (s.heap.objs.size + 1)] }) { cls:=.type "tuple",data:=.seq #[.none,.none] } (s.heap.objs.size + 3) (by simp only [Heap.size_push]) rfl
 have g3:=at' ((s.heap.push { cls:=.type "tuple_iterator",data:=.fields #[.ref l1,.int 0 0] }).push { cls:=.type "tuple_iterator",data:=.fields #[.ref l2,.int 0 0] }) { cls:=.type "tuple",data:=.seq #[.ref s.heap.objs.size,.ref (s.heap.objs.size + 1)] } (s.heap.objs.size + 2) (by simp only [Heap.size_push]) rfl
 have g2:=at' (s.heap.push { cls:=.type "tuple_iterator",data:=.fields #[.ref l1,.int 0 0] }) { cls:=.type "tuple_iterator",data:=.fields #[.ref l2,.int 0 0] } (s.heap.objs.size + 1) (by simp only [Heap.size_push]) rfl
 have g1:=at' s.heap { cls:=.type "tuple_iterator",data:=.fields #[.ref l1,.int 0 0] } s.heap.objs.size rfl rfl
 exact⟨⟨_,g5,rfl⟩,q _ g5 (kp (kp g3)) (kp g4) ⟨_,kp (kp (kp (kp g1))),rfl,rfl⟩ ⟨_,kp (kp (kp g2)),rfl,rfl⟩ (by simp only [Heap.size_push]) fun c o e=>kp (kp (kp (kp (kp e))))⟩
end
noncomputable def Ity (K:PySem.W.Frag) (a b:Addr):It :=
 ⟨fun i H=>∃xs ys x y,SqT K H a xs/\SqT K H b ys/\xs[i]?=some x/\ys[i]?=some y,
  fun i H v H'=>∃T x y,v=.ref T/\H T=none/\H'=upd H T (.tup [x,y])/\(∀xs,SqT K H a xs->xs[i]?=some x)/\∀ys,SqT K H b ys->ys[i]?=some y,
  fun i H=>∃xs,SqT K H a xs/\xs.length<=i⟩
noncomputable def rk (z TI TO i1 i2 l1 l2:Addr) (i:Nat) (h:Heap):Prop:=IsZip h z TI TO .none/\IsPair h TI (.ref i1) (.ref i2)/\(∃a b,IsPair h TO a b)/\h.IsTupleIter i1 l1 i/\h.IsTupleIter i2 l2 i
theorem oS {P:Program}{w:World}{K:PySem.W.Frag}{elts:List Expr}{x1}{pos:Pos} (z TI TO i1 i2 l1 l2:Addr) (D:ZipApart z TI TO i1 i2 l1 l2) :
  Turn P w K (.Tuple elts x1 pos) (Ity K l1 l2) [z,TI,TO,i1,i2] z (rk z TI TO i1 i2 l1 l2) where
 mem:=by simp
 obj:=fun i h st b hb=>by
  obtain⟨hz,hTI,⟨a,c,hTO⟩,⟨o1,e1,c1,d1⟩,⟨o2,e2,c2,d2⟩⟩:=st
  simp only [List.mem_cons,List.not_mem_nil,or_false] at hb
  rcases hb with rfl | rfl | rfl | rfl | rfl
  ·exact⟨_,hz,fun v q=>by cases q⟩
  ·exact⟨_,hTI,fun v q=>by cases q⟩
  ·exact⟨_,hTO,fun v q=>by cases q⟩
  ·exact⟨_,e1,fun v q=>by rw [d1] at q;cases q⟩
  ·exact⟨_,e2,fun v q=>by rw [d2] at q;cases q⟩
 keep:=fun i h h' st k=>by
  obtain⟨hz,hTI,⟨a,c,hTO⟩,h1,h2⟩:=st
  exact⟨k z (by simp) _ hz,k TI (by simp) _ hTI,⟨a,c,k TO (by simp) _ hTO⟩,h1.at fun o e=>k i1 (by simp) o e,h2.at fun o e=>k i2 (by simp) o e⟩
 item:=by
  intro X hP hw hK hc i pins s σ H E I hf st hg
  subst hP hw hK
  obtain⟨xs,ys,x,y,hq1,hq2,hx,hy⟩:=hg
  obtain⟨hz,hTI,⟨a,c,hTO⟩,h1,h2⟩:=id st
  obtain⟨its1,rv1,p1,hz1⟩:=I.tuple hq1
  obtain⟨its2,rv2,p2,hz2⟩:=I.tuple hq2
  obtain⟨u1,hu1,ru1⟩:=rv1.get hx
  obtain⟨u2,hu2,ru2⟩:=rv2.get hy
  refine nO D hz hTI hTO h1 h2 (show s.heap.IsTuple l1 its1.toArray from p1) (show s.heap.IsTuple l2 its2.toArray from p2) (x:=u1) (y:=u2) (by simpa using hu1) (by simpa using hu2) fun h' a1 a2 a3 a4 a5 a6 a7=>?_
  refine⟨_,rfl,wpAny_letOwnedTupleGo_zip (s:={ s with heap:=h' }) a1 fun h'' z2 sb=>?_⟩
  have sb':=sb.extBut
  generalize hT:s.heap.objs.size=T at *
  have lt:∀{b:Addr}{o:Obj},s.heap.get? b=some o->b≠T:=fun {b o} e=>by rw [<- hT];exact Nat.ne_of_lt (Heap.lt_size e)
  have fresh:H T=none:=by rw [<- hT];exact I.hok.fresh (Nat.le_refl _)
  have hne:∀b∈[z,TI,TO,i1,i2],b≠T:=fun b hb=>by
   obtain⟨o1,e1,_⟩:=h1
   obtain⟨o2,e2,_⟩:=h2
   simp only [List.mem_cons,List.not_mem_nil,or_false] at hb
   rcases hb with rfl | rfl | rfl | rfl | rfl
   ·exact lt hz
   ·exact lt hTI
   ·exact lt hTO
   ·exact lt e1
   ·exact lt e2
  have I0:Inv X pins σ (upd H T (.tup [x,y])) { s with heap:=s.heap.push { cls:=.type "tuple",data:=.seq #[u1,u2] },toks:=s.toks }:=by
   subst hT
   exact I.laid (t':=s.toks) (fun b o q=>Heap.get?_push_of_some _ q) (Nat.le_refl _) ⟨by show 2<=sizeLine;decide,[u1,u2],.cons ru1 (.cons ru2 .nil),_,Heap.get?_push_size _ rfl,rfl,0,rfl⟩
  have up:∀b o,b∉[z,TI,TO,i1,i2]->(s.heap.push { cls:=.type "tuple",data:=.seq #[u1,u2] }).get? b=some o->h''.get? b=some o:=fun b o hb e=>by
   simp only [List.mem_cons,List.not_mem_nil,or_false,not_or] at hb
   rcases Heap.get?_push_cases e with ⟨e1,e2⟩ | e1
   ·subst e2
    rw [e1,hT]
    exact sb' _ _ (hne z (by simp)).symm a5
   ·exact sb' _ _ hb.1 (a7 b o hb.1 hb.2.2.1 hb.2.2.2.1 hb.2.2.2.2 e1)
  have I2:Inv X pins σ (upd H T (.tup [x,y])) { s with heap:=h'',toks:=s.toks }:=Inv.turnedS (s:={ s with heap:=s.heap.push { cls:=.type "tuple",data:=.seq #[u1,u2] },toks:=s.toks }) (t':=s.toks) (ch:=[z,TI,TO,i1,i2]) I0 up fun b hb=>by
   obtain⟨f0,f1⟩:=hf b hb
   exact⟨by rw [ag (hne b hb)];exact f0,f1⟩
  exact⟨.ref T,upd H T (.tup [x,y]),I2,rfl,⟨T,x,y,rfl,fresh,rfl,fun ws hw=>by rw [I.tuple_inj hw hq1];exact hx,fun ws hw=>by rw [I.tuple_inj hw hq2];exact hy⟩,
   ⟨z2,sb' _ _ D.TIz (a7 _ _ D.TIz D.TITO D.TIi1 D.TIi2 hTI),⟨_,_,sb' _ _ D.TOz a2⟩,a3.at fun o e=>sb' _ _ D.i1z e,a4.at fun o e=>sb' _ _ D.i2z e⟩,fun b hb=>by rw [ag (hne b hb)];exact (hf b hb).1⟩
 done:=by
  intro X hP hw hK hc i pins s σ H E I hf st hg
  subst hP hw hK
  obtain⟨xs,hq1,hx⟩:=hg
  obtain⟨hz,hTI,⟨a,c,hTO⟩,h1,h2⟩:=id st
  obtain⟨its1,rv1,p1,hz1⟩:=I.tuple hq1
  have hl1:=rv1.length
  refine p7 (I.ok.hd hc) D hz hTI hTO h1 (show s.heap.IsTuple l1 its1.toArray from p1) (by simp;omega) fun h' hk=>⟨rfl,I.turnedS (t':=s.toks) (ch:=[z,TI,TO,i1,i2]) (fun b o hb e=>?_) hf⟩
  simp only [List.mem_cons,List.not_mem_nil,or_false,not_or] at hb
  exact hk b o hb.1 hb.2.2.1 hb.2.2.2.1 hb.2.2.2.2 e
 self:=fun _ _ _ _ _ st h=>wpAny_pyIter_zip st.1 h
section
variable {X:Cx}
noncomputable def iZt (K:PySem.W.Frag) (ta:TA):TI:=fun σ H R=>ta σ H fun vs H1=>∃a b xs ys,vs=[.ref a,.ref b]/\SqT K H1 a xs/\SqT K H1 b ys/\R (Ity K a b) H1
theorem qL {a b:Expr}{elts:List Expr}{x1}{tpos:Pos}{ta:TA}{p pos:Pos} (hg:Gl X "zip") (hm:X.mg "zip"=none) (ha:PA X [a,b] ta) (hs:starEach [a,b] X.env=[(false,eval a X.env),(false,eval b X.env)]:=by rfl) (hs2:starEach [b] X.env=[(false,eval b X.env)]:=by rfl) :
  PI X (.Tuple elts x1 tpos) (.Call (.Name "zip" p) [a,b] [] pos) (iZt X.K ta):=by
 intro pins s σ H R I h
 refine Call_ (bO I hg hm boot_zip (PyProof.Rows.callWith_type1 (thn (ha pos pins s σ H _ I h) fun us s1 ⟨vs,H1,I1,r1,q1⟩=>?_) (by rw [hs,hs2]) (by rw [hs2];rfl)))
 obtain⟨a',b',xs,ys,rfl,hq1,hq2,q⟩:=q1
 obtain⟨u1,u2,rfl,ra,rb⟩:=vals2 r1
 cases ra
 cases rb
 obtain⟨its1,rv1,p1,hz1⟩:=I1.tuple hq1
 obtain⟨its2,rv2,p2,hz2⟩:=I1.tuple hq2
 have l1:a' < s1.heap.objs.size:=by obtain⟨o,e,_⟩:=p1;exact Heap.lt_size e
 have l2:b' < s1.heap.objs.size:=by obtain⟨o,e,_⟩:=p2;exact Heap.lt_size e
 refine oC (show s1.heap.IsTuple a' its1.toArray from p1) (show s1.heap.IsTuple b' its2.toArray from p2) fun h' hz hTI hTO hi1 hi2 hsz hk=>?_
 refine wpAny_pyIter_zip hz ?_
 refine⟨_,[s1.heap.objs.size + 4,s1.heap.objs.size + 2,s1.heap.objs.size + 3,s1.heap.objs.size,s1.heap.objs.size + 1],_,_,H1,rfl,I1.kept (t':=s1.toks) hk,oS _ _ _ _ _ _ _ (zipApart_new l1 l2),⟨hz,hTI,⟨_,_,hTO⟩,hi1,hi2⟩,fun b hb=>?_,q⟩
 have hle:s1.heap.objs.size<=b:=by
  simp only [List.mem_cons,List.not_mem_nil,or_false] at hb
  rcases hb with rfl | rfl | rfl | rfl | rfl
  ·exact Nat.le_add_right _ _
  ·exact Nat.le_add_right _ _
  ·exact Nat.le_add_right _ _
  ·exact Nat.le_refl _
  ·exact Nat.le_add_right _ _
 exact I1.fpOk hle (I1.hok.fresh hle)
end
section
variable {prog:Program}{w:World}{A:Around}{E:Value->Shared->Prop}{s:Shared}
theorem jn {c d:Addr}{i ep:Nat}{o:Obj}{es:Array DictEntry}{Q:Option Value->Shared->Prop} (hi:s.heap.IsKeyIter c d i es.size ep) (ho:s.heap.get? d=some o) (hd:o.data=.dict es ep) (lt:i < es.size)
  (q:∀G,G.IsKeyIter c d (i + 1) es.size ep->Heap.SameBut c s.heap G->Q (some es[i].key) { s with heap:=G }):wpAny (model prog w) A (pyNext (.ref c)) Q E s:=by
 obtain⟨oc,e,cl,dc⟩:=id hi
 have own:Builtin.Dict_items.ownsTuple "dict_keyiterator"=false:=by decide
 unfold pyNext
 refine wpAny_bind (wpAny_attempt (wpAny_callSpecial?_slot (name:=Str.ofString "__next__") hi.typeIs F.slot_dict_keyiterator_next (wpAny_call_entry F.slot_dict_keyiterator_next hi.typeIs F.entry_dict_keyiterator_next ?_ (F.args_dict_keyiterator_next_1 _))))
 refine wpAny_bind (wpAny_pure (wpAny_bind (wpAny_bind ?_)))
 (first | refine wpAny_bind (wpAny_typeNameOfWhole_keyiter hi.typeIs (wpAny_pure (wpAny_bind (wpAny_fieldsOf e dc ?_)))) | refine wpAny_bind (wpAny_typeNameOf_keyiter hi.typeIs (wpAny_pure (wpAny_bind (wpAny_fieldsOf e dc ?_)))));simp only [own,Bool.false_eq_true,if_false]
 refine (show wpAny _ _ (if (Value.ref d == Value.none)=true then _ else _) _ _ s from ?_);rw [if_neg (show ¬ ((Value.ref d == Value.none)=true) from Bool.false_ne_true)]
 refine wpAny_bind (wpAny_pure (wpAny_bind (wpAny_dictEntries ho hd ?_)));rw [if_neg (by simp)]
 refine wpAny_bind (wpAny_pure (wpAny_bind (wpAny_dictEpoch ho hd ?_)));rw [if_neg (by simp)]
 refine wpAny_pure ?_;simp only [show ¬ ((i:Int) < 0) from by omega,if_false,Int.toNat_natCast,Array.getElem?_eq_getElem lt]
 refine wpAny_bind ?_;(first | refine wpAny_bind (wpAny_typeNameOfWhole_keyiter hi.typeIs (wpAny_pure (wpAny_bind (wpAny_isOneOf_keyiter hi.typeIs ?_)))) | refine wpAny_bind (wpAny_typeNameOf_keyiter hi.typeIs (wpAny_pure (wpAny_bind (wpAny_isOneOf_keyiter hi.typeIs ?_)))))
 refine (show wpAny _ _ (setField (.ref c) 1 (rawInt ((i:Int) + 1)) >>= _) _ _ s from wpAny_bind (wpAny_setField e dc (by simp) ?_))
 have hi2:(s.heap.update c (Obj.mapFields (·.setIfInBounds 1 (rawInt ((i:Int) + 1))))).IsKeyIter c d (i + 1) es.size ep:=⟨_,Heap.get?_update_self _ e (Obj.isFreed_of_fields (Obj.data_mapFields dc _)),(Obj.cls_mapFields ..).trans cl,by rw [Obj.data_mapFields dc];simp [rawInt]⟩
 refine wpAny_bind (wpAny_holding (wpAny_bind (wpAny_isOneOf_keyiter (s:={ s with heap:=s.heap.update c (Obj.mapFields (·.setIfInBounds 1 (rawInt ((i:Int) + 1)))) }) hi2.typeIs ?_)))
 exact (show wpAny _ _ (pure es[i].key) _ _ _ from wpAny_pure (wpAny_pure ⟨_,rfl,wpAny_pure (q _ hi2 (Heap.SameBut.update ..))⟩))
theorem jK {c d:Addr}{i ep:Nat}{o:Obj}{es:Array DictEntry}{Q:Option Value->Shared->Prop} (hh:A.handled=none) (hi:s.heap.IsKeyIter c d i es.size ep) (ho:s.heap.get? d=some o) (hd:o.data=.dict es ep) (ge:es.size<=i)
  (q:∀G,Heap.ExtBut c s.heap G->Q none { s with heap:=G }):wpAny (model prog w) A (pyNext (.ref c)) Q E s:=by
 obtain⟨oc,e,cl,dc⟩:=id hi
 have own:Builtin.Dict_items.ownsTuple "dict_keyiterator"=false:=by decide
 unfold pyNext
 refine wpAny_bind (wpAny_attempt (wpAny_callSpecial?_slot (name:=Str.ofString "__next__") hi.typeIs F.slot_dict_keyiterator_next (wpAny_call_entry F.slot_dict_keyiterator_next hi.typeIs F.entry_dict_keyiterator_next ?_ (F.args_dict_keyiterator_next_1 _))))
 refine wpAny_bind (wpAny_pure (wpAny_bind (wpAny_bind ?_)))
 (first | refine wpAny_bind (wpAny_typeNameOfWhole_keyiter hi.typeIs (wpAny_pure (wpAny_bind (wpAny_fieldsOf e dc ?_)))) | refine wpAny_bind (wpAny_typeNameOf_keyiter hi.typeIs (wpAny_pure (wpAny_bind (wpAny_fieldsOf e dc ?_)))));simp only [own,Bool.false_eq_true,if_false]
 refine (show wpAny _ _ (if (Value.ref d == Value.none)=true then _ else _) _ _ s from ?_);rw [if_neg (show ¬ ((Value.ref d == Value.none)=true) from Bool.false_ne_true)]
 refine wpAny_bind (wpAny_pure (wpAny_bind (wpAny_dictEntries ho hd ?_)));rw [if_neg (by simp)]
 refine wpAny_bind (wpAny_pure (wpAny_bind (wpAny_dictEpoch ho hd ?_)));rw [if_neg (by simp)]
 refine wpAny_pure ?_;simp only [show ¬ ((i:Int) < 0) from by omega,if_false,Int.toNat_natCast,Array.getElem?_eq_none ge]
 refine wpAny_bind ?_;(first | refine wpAny_bind (wpAny_typeNameOfWhole_keyiter hi.typeIs (wpAny_pure ?_)) | refine wpAny_bind (wpAny_typeNameOf_keyiter hi.typeIs (wpAny_pure ?_)))
 refine (show wpAny _ _ (setField (.ref c) 0 .none >>= _) _ _ s from wpAny_bind (wpAny_setField e dc (by simp) (show wpAny _ _ (newExc (.type "StopIteration") [] >>= _) _ _ _ from wpAny_bind ?_)));simp only [newExc,newTuple]
 refine wpAny_bind (wpAny_newObj_type (wpAny_bind (m:=firstArgMember _ _) (wpAny_of_eq (a:=Value.none) (by first | rfl | (simp only [firstArgMember];rfl)) (wpAny_newObj_type ?_ (by size_fits)))) (by size_fits));simp only [raiseNew]
 refine wpAny_bind (wpAny_handled ?_);rw [show A.in1.handled=none from hh]
 refine wpAny_bind (wpAny_pure (wpAny_throw ?_));refine wpAny_bind (wpAny_isInstance (T:="StopIteration") (b:=true) ⟨_,Heap.get?_push_size _ rfl,rfl⟩ isSubtype_stop (wpAny_pure (q _ (((Heap.SameBut.update ..).extBut.push _).push _))))
theorem jd {d:Addr}{ep:Nat}{o:Obj}{es:Array DictEntry}{Q:Value->Shared->Prop} (nd:(d == sysModules)=false) (ho:s.heap.get? d=some o) (ex:o.ExactDict) (hd:o.data=.dict es ep)
  (q:Q (.ref s.heap.objs.size) { s with heap:=s.heap.push { cls:=.type "dict_keyiterator",data:=.fields #[.ref d,.int 0 0,.int es.size 0,.int ep 0] } }):wpAny (model prog w) A (pyIter (.ref d)) Q E s:=by
 have ty:s.TypeIs (.ref d) "dict":=⟨o,ho,ex.1⟩
 refine wpAny_pyIter_slot ty F.slot_dict_iter (wpAny_call_entry F.slot_dict_iter ty F.entry_dict_iter ?_ (F.args_dict_iter_1 _))
 unfold Builtin.«dict.__iter__»;refine wpAny_bind ?_;unfold Builtin.Dict.dictSlotNone
 refine wpAny_bind (wpAny_notOrdered_dict ty (show wpAny _ _ (pure (Value.ref d)) _ _ s from wpAny_pure (show wpAny _ _ (Builtin.Dict.showsAll d >>= _) _ _ s from ?_)));unfold Builtin.Dict.showsAll;rw [if_neg (by rw [nd];exact Bool.false_ne_true)]
 refine wpAny_bind (wpAny_pure (wpAny_bind (wpAny_dictEntries ho hd (wpAny_bind (wpAny_dictEpoch ho hd (wpAny_bind (wpAny_newObj_type (wpAny_pure ⟨_,rfl,"dict_keyiterator",_,⟨_,Heap.get?_push_size _ rfl,rfl⟩,F.slot_dict_keyiterator_next.lookup,?_⟩))))))))
 simpa [rawInt] using q
end
theorem Inv.freeze {X:Cx}{pins:List (Addr×Obj)}{σ:St}{H:Hp}{s:Shared}{a:Addr}{o:Obj}{kvs:List (List Key×V)} (I:Inv X pins σ H s) (e:H a=some (.dT kvs)) (ho:s.heap.get? a=some o):Inv X pins σ (upd H a (.frz o (.dT kvs))) s:=by
 have ne:∀b u,H b=some u->(∀k,u≠.dT k)->b≠a:=fun b u q n z=>by
  rw [z,e] at q
  cases q
  exact n _ rfl
 have st:∀{b:Addr}{u:HO},aC X.prog X.w H s.heap b u->aC X.prog X.w (upd H a (.frz o (.dT kvs))) s.heap b u:=fun x=>x.stay (fun _ _ _ q=>q) (fun b q=>by rw [ag (ne b _ q (by intro k z;cases z))];exact q) fun b xs q=>by rw [ag (ne b _ q (by intro k z;cases z))];exact q
 refine I.step (h':=s.heap) (g':=s.gens) (t':=s.toks) (d':=s.drawn) (ch:=[]) (fun _ z=>nomatch z) (fun b o _ _ _ q _=>q) (fun b o _ _ _ q _=>⟨o.slots,q⟩) (fun b o' _ q n=>?_) (fun b o _ q=>⟨o,q⟩) (fun b xs q=>?_) (fun b o u q=>?_) (fun b ps q=>?_) (fun m h=>h) (fun b u q=>?_) I.bare
 ·rw [ag (fun z=>by rw [z,e] at n;cases n)];exact n
 ·rw [ag (ne b _ q (by intro k z;cases z))];exact q
 ·rw [ag (ne b _ q (by intro k z;cases z))];exact q
 ·exact⟨#[],by rw [ag (ne b _ q (by intro k z;cases z)),q];simp⟩
 ·by_cases hb:b=a
  ·subst hb
   rw [ai] at q
   cases q
   exact⟨ho,st (I.hok b _ e)⟩
  ·rw [ag hb] at q
   exact st (I.hok b u q)
noncomputable def Itd (a:Addr) (o:Obj):It :=
 ⟨fun i H=>∃kvs,H a=some (.frz o (.dT kvs))/\i < kvs.length,
  fun i H v H'=>H'=H/\∀kvs,H a=some (.frz o (.dT kvs))->∃p b,kvs[i]?=some p/\v=.ref b/\H b=some (.tup (p.1.map kV)),
  fun i H=>∃kvs,H a=some (.frz o (.dT kvs))/\kvs.length<=i⟩
theorem Paired.at {α β:Type}{F:α->β->Prop}:∀{l:List α}{m:List β},Paired F l m->∀{i:Nat}{x:α},l[i]?=some x->∃y,m[i]?=some y/\F x y
 | _,_,.cons r t,0,x,h=>by simp at h;subst h;exact⟨_,rfl,r⟩
 | _,_,.cons r t,i + 1,x,h=>by simpa using Paired.at t (by simpa using h)
theorem lZ {P:Program}{w:World}{K:PySem.W.Frag}{tg:Expr} (a it:Addr) (o:Obj) (es:Array DictEntry) (ep:Nat) (hd:o.data=.dict es ep):Turn P w K tg (Itd a o) [it] it (fun i h=>h.IsKeyIter it a i es.size ep) where
 mem:=by simp
 obj:=fun i h st b hb=>by
  have e:b=it:=by simpa using hb
  subst e
  obtain⟨o,e,c,d⟩:=st
  exact⟨o,e,fun v z=>by rw [d] at z;cases z⟩
 keep:=fun i h h' st k=>st.at fun o e=>k it (by simp) o e
 item:=by
  intro X hP hw hK hc i pins s σ H E I hf st hg
  subst hP hw hK
  obtain⟨kvs,ha,lt⟩:=hg
  obtain⟨ho,_,_,xs,rel,o2,es2,ep2,h1,_,h2,h3,_⟩:=(show aC X.prog X.w H s.heap a (.frz o (.dT kvs)) from I.hok a _ ha)
  rw [ho] at h1
  cases h1
  rw [hd] at h2
  cases h2
  have hl:=Paired.length rel
  have hes:es.size=xs.length:=size_of_entries h3
  have lt2:i < es.size:=by omega
  obtain⟨p,hp⟩:∃p,kvs[i]?=some p:=⟨_,List.getElem?_eq_getElem lt⟩
  obtain⟨y,hy,r1,r2,r3⟩:=Paired.at rel hp
  have ek:es[i].key=.ref y.2.1:=by
   have q:=entry_at h3 i
   rw [hy,Array.getElem?_eq_getElem lt2] at q
   simp only [Option.map_some,Option.some.injEq] at q
   rw [q];rfl
  obtain⟨f0,f1,f2,f3,f4,f5⟩:=hf it (by simp)
  refine jn st ho hd lt2 fun h' st' sb=>?_
  rw [ek]
  have I1:Inv X pins σ H { s with heap:=h' }:=I.turned (t':=s.toks) (fun b o hb e=>(sb.2 b hb).trans e) f0 f1 f3 f4 f5
  obtain⟨o',e,c,d⟩:=id st'
  exact⟨_,rfl,dq (s:={ s with heap:=h' }) e c d (by decide) ⟨.ref y.2.1,H,I1,rfl,⟨rfl,fun kvs' ha'=>by rw [ha] at ha';cases ha';exact⟨p,_,hp,rfl,r2⟩⟩,st',fun b hb=>(hf b hb).1⟩⟩
 done:=by
  intro X hP hw hK hc i pins s σ H E I hf st hg
  subst hP hw hK
  obtain⟨kvs,ha,ge⟩:=hg
  obtain⟨ho,_,_,xs,rel,o2,es2,ep2,h1,_,h2,h3,_⟩:=(show aC X.prog X.w H s.heap a (.frz o (.dT kvs)) from I.hok a _ ha)
  rw [ho] at h1
  cases h1
  rw [hd] at h2
  cases h2
  have hl:=Paired.length rel
  have hes:es.size=xs.length:=size_of_entries h3
  obtain⟨f0,f1,f2,f3,f4,f5⟩:=hf it (by simp)
  exact jK (I.ok.hd hc) st ho hd (by omega) fun h' eb=>⟨rfl,I.turned (t':=s.toks) (fun b o hb e=>eb b o hb e) f0 f1 f3 f4 f5⟩
 self:=fun _ _ _ _ _ st h=>wpAny_pyIter_keyiter st h
section
variable {X:Cx}{tg:Expr}
noncomputable def qw (tl:TE):TI:=fun σ H R=>tl σ H fun x H1=>∃a kvs,x=.ref a/\H1 a=some (.dT kvs)/\∀o,R (Itd a o) (upd H1 a (.frz o (.dT kvs)))
theorem nM {l:Expr}{tl:TE} (hl:PE X l tl):PI X tg l (qw tl):=by
 intro pins s σ H R I h
 refine thn (hl pins s σ H _ I h) fun v s1 ⟨x,H1,I1,r1,q1⟩=>?_
 obtain⟨a,kvs,rfl,ha,q⟩:=q1
 cases r1
 obtain⟨_,nd,xs,rel,o,es,ep,ho,ex,hd,h3,_⟩:=(show aC X.prog X.w H1 s1.heap a (.dT kvs) from I1.hok a _ ha)
 refine jd nd ho ex hd ?_
 have I2:=I1.freeze ha ho
 refine⟨s1.heap.objs.size,[s1.heap.objs.size],_,_,_,rfl,I2.kept (t':=s1.toks) fun b o e=>Heap.get?_push_of_some _ e,lZ a _ o es ep hd,⟨_,Heap.get?_push_size _ rfl,rfl,rfl⟩,fun b hb=>?_,q o⟩
 have e:b=s1.heap.objs.size:=by simpa using hb
 subst e
 exact I2.fpOk (Nat.le_refl _) (I2.hok.fresh (Nat.le_refl _))
end
noncomputable def fV (H:Hp) (a:Addr) (y v:V) (H':Hp):Prop:=∃kvs k,H a=some (.dK kvs)/\y=kV k/\kvs.length < sizeLine/\H'=upd H a (.dK (putK kvs k v))
theorem lI {X:Cx}{pins:List (Addr×Obj)}{σ:St}{H H':Hp}{s:Shared}{a:Addr}{y v:V}{u r:Value}{A:Around}{E:Value->Shared->Prop}{Q:Unit->Shared->Prop} (I:Inv X pins σ H s) (g:fV H a y v H') (ry:RelV y u) (rv:RelV v r) (h:∀s',Inv X pins σ H' s'->Q () s') :
  wpAny (model X.prog X.w) A (dictSet a u r) Q E s:=by
 obtain⟨kvs,k,e,ey,l,eH⟩:=g
 subst ey eH
 obtain⟨z,hd,vs,rel,dd⟩:=ka I.hok e
 have hl:(putK kvs k v).length<=sizeLine:=by have:=dD kvs k v;omega
 refine wpAny_dictSet_pairs (hsz:=by rw [<- rel.length];exact z) (dR ry) dd fun h' dd' hs=>h _ ?_
 have he:∃q,h'.get? a=some q:=let ⟨q,_,_,hq,_⟩:=dd';⟨q,hq⟩
 exact eF I (by rw [e];exact True.intro) hs he (jG hl hd (rel.put k rv) dd')
noncomputable def gg (D:Addr) (J:It) (g:TG) (tt:TT) (tk tv:TE) (σ':St) (fin:Hp->Prop) (H1:Hp):Prop :=
 ∃W:Nat->Nat->St->Hp->Prop,(∃m,W 0 m σ' H1)/\∀i m σ H,W i m σ H ->
  (J.stop i H/\fin H)\/(J.go i H/\∃Nx:St->Hp->Prop,(∀σ' H',Nx σ' H'->∃m',m' < m/\W (i + 1) m' σ' H') /\
   ∀x H',J.yld i H x H'->g x σ H' fun σ2 H2=>tt σ2 H2 fun b H3=>if b=true then tk σ2 H3 (fun y H4=>tv σ2 H4 fun v H5=>∃H6,fV H5 D y v H6/\Nx σ2 H6) else Nx σ2 H3)
section
variable {X:Cx}{scope:Scope}{N:List Str}{ix:List (Option Nat)}
variable {tg iter kx vx:Expr}{ifs:List Expr}{pos:Pos}{g:TG}{tt:TT}{tk tv:TE}
theorem oV (L:bf X scope N ix) (hc:X.calm=true) (hg:∀C s0 H0 fp,PG (aA X scope N C s0 H0 fp) tg g) (ht:∀C s0 H0 fp,PTs (aA X scope N C s0 H0 fp) ifs tt) (hk:∀C s0 H0 fp,PE (aA X scope N C s0 H0 fp) kx tk) (hv:∀C s0 H0 fp,PE (aA X scope N C s0 H0 fp) vx tv)
  {pins:List (Addr×Obj)}{σ:St}{H1:Hp}{s1:Shared}{it:Addr}{fp:List Addr}{tn:Nat->Heap->Prop}{J:It}{fin:Addr->Hp->Prop}{E:Value->Shared->Prop}{RR:Value->Addr->Result->Shared->Prop}
  (I1:Inv X pins σ H1 s1) (T:Turn X.prog X.w X.K tg J fp it tn) (st:tn 0 s1.heap) (f1:∀b∈fp,br X pins H1 b) (hW:∀D,H1 D=none->gg D J g tt tk tv (emb ix σ) (fin D) (upd H1 D (.dK [])))
  (hRR:∀D C s' m H',s'.heap.Ns C m->s'.os=s1.os->br X pins H' C->(∀h',Heap.SameBut C s'.heap h'->Inv X pins σ H' { s' with heap:=h' })->fin D H'->RR (.ref D) C (.ok .next) s') :
  wpAny (model X.prog X.w) X.A newDict (fun acc s3=>wpAny (model X.prog X.w) X.A (newFunctionEnv scope X.env.globals (bp X.env scope.names []) [] X.env.qual none .none (some X.env)) (fun cenv s4 =>
   codeAny (model X.prog X.w) X.A (.compStart (.DictComp kx vx [⟨tg,iter,ifs,0⟩] scope pos) 0 (.ref it) acc { cenv with scope:=relabel scope X.env }) (RR acc cenv.locals) s4) E s3) E s1:=by
 have hb1:∀b∈fp,b < s1.heap.objs.size:=fun b hb=>by
  obtain⟨o,e,_⟩:=T.obj _ _ st b hb
  exact Heap.lt_size e
 have hDn:H1 s1.heap.objs.size=none:=I1.hok.fresh (Nat.le_refl _)
 obtain⟨W,⟨m0,w0⟩,turn⟩:=hW s1.heap.objs.size hDn
 refine wpAny_newObj_type (wpAny_newFunctionEnv L.nocell (by intro y hy;simp at hy) (fun h1 hns hsb=>?_) L.kind)
 dsimp only at hns hsb ⊢
 have I2:Inv X pins σ (upd H1 s1.heap.objs.size (.dK [])) { s1 with heap:=s1.heap.push { cls:=.type "dict",data:=.dict #[] },toks:=s1.toks } :=
  I1.laid (t':=s1.toks) (a:=s1.heap.objs.size) (o:=.dK []) (fun _ _ q=>Heap.get?_push_of_some _ q) (Nat.le_refl _) (nC s1.heap I1.big)
 have f2:∀b∈fp,br X pins (upd H1 s1.heap.objs.size (.dK [])) b:=fun b hb=>by
  obtain⟨q0,q1⟩:=f1 b hb
  exact⟨by rw [ag (Nat.ne_of_lt (hb1 b hb))];exact q0,q1⟩
 have st2:tn 0 (s1.heap.push { cls:=.type "dict",data:=.dict #[] }):=T.keep _ _ _ st fun b _ o e=>Heap.get?_push_of_some _ e
 generalize hD:s1.heap.objs.size=D at *
 generalize hH2:upd H1 D (.dK [])=H2 at *
 generalize hG:s1.heap.push { cls:=.type "dict",data:=.dict #[] }=G at *
 have hGs:G.objs.size=D + 1:=by rw [<- hG,Heap.size_push,hD]
 generalize hCe:G.objs.size=C at *
 have kp:∀b o,G.get? b=some o->h1.get? b=some o:=fun b o e=>hsb.extBut b o (fun z=>by have:=Heap.lt_size e;rw [hCe] at this;exact absurd (z ▸ this) (Nat.lt_irrefl _)) (Heap.get?_push_of_some _ e)
 have I4:=jP L (tk:=s1.toks + ([]:List (Str×Value)).length) I2 (C:=C) (by show G.objs.size<=C;rw [hCe];exact Nat.le_refl _) f2 (fun b hb=>by show b < G.objs.size;rw [hCe,hGs];exact Nat.lt_succ_of_lt (hb1 b hb)) kp hns
 have st4:tn 0 h1:=T.keep _ _ _ st2 fun b _ o e=>kp b o e
 generalize hs2:({ s1 with heap:=G,toks:=s1.toks }:Shared)=s2 at I2 I4
 have hs2h:s2.heap=G:=by rw [<- hs2]
 have hs2o:s2.os=s1.os:=by rw [<- hs2]
 have stat:∀{H':Hp},(∀b∈fp,H' b=none)->∀b∈fp,br (aA X scope N C s2 H2 fp) [] H' b:=fun {H'} hn b hb=>by
  have hlt:=hb1 b hb
  refine⟨hn b hb,fun z=>?_,fun z=>?_,.inl hb,fun x c e=>(f2 b hb).2.2.2.2.1 x c (b6 e),fun p hq z=>?_⟩
  ·exact nL hlt hGs z
  ·exact (List.mem_cons.mp (I2.stkSub b z)).elim (f2 b hb).2.1 (f2 b hb).2.2.1
  ·have hq':p∈([]:List (Addr×Obj)):=by simpa [aA] using hq
   cases hq'
 have loop:∀s4:Shared,Inv (aA X scope N C s2 H2 fp) [] (emb ix σ) H2 s4->tn 0 s4.heap->codeAny (model X.prog X.w) X.A (.compLoop (.DictComp kx vx [⟨tg,iter,ifs,0⟩] scope pos) 0 (.ref it) (.ref D) (aA X scope N C s2 H2 fp).env) (RR (.ref D) C) s4:=by
  intro s4 I4' st4'
  refine oO (fun n s'=>∃i σ' H',Inv (aA X scope N C s2 H2 fp) [] σ' H' s'/\tn i s'.heap/\(∀b∈fp,H' b=none)/\W i n σ' H') ?_ m0 ⟨0,emb ix σ,H2,I4',st4',fun b hb=>(f2 b hb).1,w0⟩
  rintro n s' ⟨i,σ',H',I',st',fr',w'⟩
  rcases turn i n σ' H' w' with ⟨stop,qf⟩ | ⟨go,Nx,hN,step⟩
  ·refine thn (T.done (aA X scope N C s2 H2 fp) rfl rfl rfl hc i _ s' σ' H' _ I' (stat fr') st' stop) fun r s5 ⟨hr,I5⟩=>?_
   subst hr
   obtain⟨m5,hn5,_⟩:=I5.loc
   refine hRR D C s5 m5 H' hn5 (I5.os.trans hs2o) (I2.fpOk (by rw [hs2h,hCe];exact Nat.le_refl _) I5.free) (fun h' hs'=>?_) qf
   exact o6 I2 f2 I5 (by rw [hs2h,hCe];exact Nat.le_refl _) fun b o hb e=>hs'.extBut b o hb e
  ·refine thn (T.item (aA X scope N C s2 H2 fp) rfl rfl rfl hc i _ s' σ' H' _ I' (stat fr') st' go) fun r s5 ⟨u,hr,h5⟩=>?_
   subst hr
   refine thn h5 fun _ s6 ⟨x,H6,I6,r6,y6,st6,fr6⟩=>?_
   have I6':=I6.pinned (stat fr6) (T.obj _ _ st6)
   refine thn (hg C s2 H2 fp _ s6 σ' H6 x u _ I6' r6 (step x H6 y6)) fun _ s7 ⟨σ7,H7,I7,q7⟩=>?_
   refine thn (ht C s2 H2 fp _ s7 σ7 H7 _ I7 q7) fun ok s8 ⟨H8,I8,q8⟩=>?_
   have back:∀{H9:Hp}{s9:Shared},Inv (aA X scope N C s2 H2 fp) ([]++dk fp s6.heap) σ7 H9 s9->tn (i + 1) s9.heap/\∀b∈fp,H9 b=none:=fun {H9 s9} I9=>by
    refine⟨T.keep _ _ _ st6 fun b hb o e=>(I9.pin (b,o) (List.mem_append_right _ (List.mem_append_right _ (c8 hb e)))).1,fun b hb=>?_⟩
    obtain⟨o,e,d⟩:=T.obj _ _ st6 b hb
    exact (I9.pin (b,o) (List.mem_append_right _ (List.mem_append_right _ (c8 hb e)))).2.1
   cases ok with
   | false =>
    rw [if_neg Bool.false_ne_true] at q8 ⊢
    obtain⟨m',hm,w8⟩:=hN _ _ q8
    obtain⟨st8,fr8⟩:=back I8
    exact⟨m',hm,i + 1,σ7,H8,I8.unpinned,st8,fr8,w8⟩
   | true =>
    rw [if_pos rfl] at q8 ⊢
    refine thn (hk C s2 H2 fp _ s8 σ7 H8 _ I8 q8) fun yv s9 ⟨y,H9,I9,r9,q9⟩=>?_
    refine thn (hv C s2 H2 fp _ s9 σ7 H9 _ I9 q9) fun xv s10 ⟨v,H10,I10,r10,H11,g11,q11⟩=>?_
    refine lI (X:=aA X scope N C s2 H2 fp) I10 g11 r9 r10 fun s11 I11=>?_
    obtain⟨m',hm,w11⟩:=hN _ _ q11
    obtain⟨st11,fr11⟩:=back I11
    exact⟨m',hm,i + 1,σ7,H11,I11.unpinned,st11,fr11,w11⟩
 have q:=loop _ I4 st4
 subst hs2
 exact codeAny_compStart_dict q (T.self _ 0 _ _ _ st4 q)
noncomputable def rp (wi:TI) (g:TG) (tt:TT) (tk tv:TE) (ix:List (Option Nat)):TE:=fun σ H Q=>wi σ H fun J H1=>∀D,H1 D=none->gg D J g tt tk tv (emb ix σ) (fun H'=>Q (.ref D) H') (upd H1 D (.dK []))
theorem pS {wi:TI} (L:bf X scope N ix) (hc:X.calm=true) (hi:PI X tg iter wi) (hg:∀C s0 H0 fp,PG (aA X scope N C s0 H0 fp) tg g)
  (ht:∀C s0 H0 fp,PTs (aA X scope N C s0 H0 fp) ifs tt) (hk:∀C s0 H0 fp,PE (aA X scope N C s0 H0 fp) kx tk) (hv:∀C s0 H0 fp,PE (aA X scope N C s0 H0 fp) vx tv) (hs:∀x,foldedSetIterable iter X.env x=pure x:=by intro _;rfl) :
  PE X (.DictComp kx vx [⟨tg,iter,ifs,0⟩] scope pos) (rp wi g tt tk tv ix):=by
 intro pins s σ H Q I h
 show wpAny _ X.A (comprehension (.DictComp kx vx [⟨tg,iter,ifs,0⟩] scope pos) scope X.env _ newDict false (eval iter X.env)) _ _ s
 refine wpAny_comprehension_free (use:=none) rfl hs (L.clos I.ok) L.kind L.locals (thn (hi pins s σ H _ I h) fun v s1 h1=>thn h1 fun itv s2 h2=>?_)
 obtain⟨it,fp,tn,J,H2,rfl,I2,T,st2,f2,hW⟩:=h2
 refine oV (RR:=fun acc C=>compPost (model X.prog X.w) X.A X.xe none (EP X pins σ Q) acc C) L hc hg ht hk hv I2 T st2 f2 hW ?_
 intro D C s' m H' hn ho hC hI fin
 exact⟨m,hn,fun h' hs'=>⟨.ref D,_,hI h' hs',rfl,fin⟩⟩
end
structure M1 (X:Cx) (o:Expr) (m:Str) (apos:Pos) (e:Expr) (cpos:Pos):Prop where
 base:attributeBase o m X.env (eval o X.env)=eval o X.env
 few:((backTo cpos (starEach [e] X.env)).all (fun x=>!x.1) && (backToKw cpos (keywordEach [] X.env)).all (fun x=>x.1.isSome)
  && decide (([e]:List Expr).length + ([]:List Keyword).length + (if ([]:List Keyword).isEmpty then 0 else 1) < 30))=true
 line:(apos.endLine == cpos.line)=true
 trees:backTo cpos (starEach [e] X.env)=[(false,eval e X.env)]
structure M2 (X:Cx) (o:Expr) (m:Str) (apos:Pos) (e f:Expr) (cpos:Pos):Prop where
 base:attributeBase o m X.env (eval o X.env)=eval o X.env
 few:((backTo cpos (starEach [e,f] X.env)).all (fun x=>!x.1) && (backToKw cpos (keywordEach [] X.env)).all (fun x=>x.1.isSome)
  && decide (([e,f]:List Expr).length + ([]:List Keyword).length + (if ([]:List Keyword).isEmpty then 0 else 1) < 30))=true
 line:(apos.endLine == cpos.line)=true
 trees:backTo cpos (starEach [e,f] X.env)=[(false,eval e X.env),(false,eval f X.env)]
noncomputable def IsD (H:Hp) (a:Addr):Prop:=(∃kvs,Rd H a (.dK kvs))\/∃kvs,Rd H a (.dT kvs)
theorem pG {X:Cx}{pins:List (Addr×Obj)}{σ:St}{H:Hp}{s:Shared}{a:Addr} (I:Inv X pins σ H s) (d:IsD H a) :
  s.TypeIs (.ref a) "dict"/\(∀b,Value.ref a=.ref b->∃ob,s.heap.get? b=some ob/\ob.dict=none)/\(a == sysModules)=false:=by
 rcases d with ⟨kvs,e⟩ | ⟨kvs,e⟩
 ·obtain⟨_,hd,vs,_,dd⟩:=dv I.hok e
  refine⟨dd.typeIs,fun b q=>?_,hd⟩
  cases q
  obtain⟨ob,_,_,h1,h2,_⟩:=dd
  exact⟨ob,h1,h2.2.1⟩
 ·obtain⟨_,hd,xs,_,dd⟩:=cY I.hok e
  refine⟨dd.typeIs,fun b q=>?_,hd⟩
  cases q
  obtain⟨ob,_,_,h1,h2,_⟩:=dd
  exact⟨ob,h1,h2.2.1⟩
section
variable {X:Cx}{pins:List (Addr×Obj)}{σ:St}{H:Hp}{s:Shared}{a:Addr}{y d:V}{u r:Value}{o:Option V}{A:Around}{E:Value->Shared->Prop}
theorem pj {Q:Value->Shared->Prop} (hu:A.units + 1 < cLine) (I:Inv X pins σ H s) (g:cG H a y o) (ry:RelV y u) (rd:RelV d r) (h:∀w' s',Inv X pins σ H s'->RelV (o.getD d) w'->Q w' s') :
  wpAny (model X.prog X.w) A (call (.builtin "dict.get") [.ref a,u,r]) Q E s:=by
 rcases g with ⟨kvs,k,e,ey,l⟩ | ⟨kvs,k,b,e,ey,eb,l⟩
 ·subst ey
  obtain⟨z,hd,vs,rel,dd⟩:=dv I.hok e
  refine call_meetsIn PySem.F.slot_dict_get dd.typeIs PySem.F.entry_dict_get (PySem.F.args_dict_get_3 _ _ _) (meets_dict_get_default (bt X.prog X.w) a (dR ry) hd r) ⟨_,dd.mapOf,h _ _ (I.tok _) ?_⟩
  rw [l]
  exact (rel.val k).getD rd
 ·subst ey
  cases (show u=Value.ref b from ry)
  obtain⟨z,hd,xs,rel,dd⟩:=cY I.hok e
  refine call_meetsIn PySem.F.slot_dict_get dd.typeIs PySem.F.entry_dict_get (PySem.F.args_dict_get_3 _ _ _) (meetsH_dict_get_default (tupleKind (bt X.prog X.w)) a b hd r) ⟨tupleKind_room_in1 hu,k,xs,dP I.hok eb,dd,h _ _ (I.tok _) ?_⟩
  rw [l]
  exact (rel.val k).getD rd
end
noncomputable def p9 (td ty tx:TE):TE:=fun σ H Q=>td σ H fun x H1=>∃a,x=.ref a/\IsD H1 a/\ty σ H1 fun y H2=>tx σ H2 fun z H3=>∃o,cG H3 a y o/\Q (o.getD z) H3
section
variable {X:Cx}{o e f:Expr}{apos cpos:Pos}{td ty tx:TE}
theorem ng (hu:X.A.units + 1 < cLine) (ho:PE X o td) (he:PE X e ty) (hf:PE X f tx) (m:M2 X o "get" apos e f cpos):PE X (.Call (.Attribute o "get" apos) [e,f] [] cpos) (p9 td ty tx):=by
 intro pins s σ H Q I h
 refine wpAny_Call_method m.base m.few m.line PySem.F.plainAttrs_dict PySem.F.slot_dict_get PySem.F.type_dict_get (thn (ho pins s σ H _ I h) fun u s1 ⟨x,H1,I1,rx,a,ex,d,q1⟩=>?_)
 subst ex
 obtain rfl:u=Value.ref a:=rx
 obtain⟨t1,t2,_⟩:=pG I1 d
 refine⟨t1,t2,?_⟩
 rw [m.trees]
 refine Calls.callWith_builtin rfl (Calls.evalArgs_plain (Calls.spliced_cons (thn (he pins s1 σ H1 _ I1 q1) fun iv s2 ⟨y,H2,I2,ry,q2⟩ =>
  Calls.spliced_cons (thn (hf pins s2 σ H2 _ I2 q2) fun fv s3 ⟨z,H3,I3,rz,ov,g,q3⟩=>Calls.spliced_nil ?_))))
 exact pj hu I3 g ry rz fun w' s4 I4 rw'=>⟨_,H3,I4,rw',q3⟩
end
section
variable {X:Cx}{pins:List (Addr×Obj)}{σ:St}{H:Hp}{s:Shared}{a:Addr}{kvs:List (Key×V)}{A:Around}{E:Value->Shared->Prop}
end
section
variable {X:Cx}{pins:List (Addr×Obj)}{σ:St}{H:Hp}{s:Shared}{a:Addr}{y:V}{u:Value}{A:Around}{E:Value->Shared->Prop}
end
section
variable {X:Cx}
end
section
variable {κ:Type} [DecidableEq κ]
end
end L2
namespace L2
open PySem PySem.Spec PyProof.Rows PySem.W PySem.Calls
section
variable {X:Cx}
end
section
variable {prog:Program}{w:World}{A:Around}{E:Value->Shared->Prop}{s:Shared}
end
section
variable {prog:Program}{w:World}{A:Around}{R:Result->Shared->Prop}{K:Type} [DecidableEq K] {knd:PySem.KeyKind prog w K}
end
section
variable {X:Cx}
end
end L2
namespace L2
open PySem PySem.Spec PyProof.Rows
noncomputable def Ite (K:PySem.W.Frag) (a:Addr):It :=
 ⟨fun i H=>∃xs x,SqL K H a xs/\xs[i]?=some x,
  fun i H v H'=>∃T x,v=.ref T/\H T=none/\H'=upd H T (.tup [.int i,x])/\∀xs,SqL K H a xs->xs[i]?=some x,
  fun i H=>∃xs,SqL K H a xs/\xs.length<=i⟩
noncomputable def pk (e it l:Addr) (i:Nat) (h:Heap):Prop:=(∃old,IsEnum h e it i old)/\h.IsListIter it l i
theorem mj {P:Program}{w:World}{K:PySem.W.Frag}{elts:List Expr}{x1}{pos:Pos} (e it l:Addr) (hei:e≠it) :
  Turn P w K (.Tuple elts x1 pos) (Ite K l) [e,it] e (pk e it l) where
 mem:=by simp
 obj:=fun i h st b hb=>by
  obtain⟨⟨old,he⟩,⟨o1,e1,c1,d1⟩⟩:=st
  simp only [List.mem_cons,List.not_mem_nil,or_false] at hb
  rcases hb with rfl | rfl
  ·exact⟨_,he,fun v q=>by cases q⟩
  ·exact⟨_,e1,fun v q=>by rw [d1] at q;cases q⟩
 keep:=fun i h h' st k=>by
  obtain⟨⟨old,he⟩,h1⟩:=st
  exact⟨⟨old,k e (by simp) _ he⟩,h1.at fun o q=>k it (by simp) o q⟩
 item:=by
  intro X hP hw hK hc i pins s σ H E I hf st hg
  subst hP hw hK
  obtain⟨xs,x,hq1,hx⟩:=hg
  obtain⟨⟨old,he⟩,h1⟩:=id st
  obtain⟨its1,rv1,p1,hz1⟩:=I.list hq1
  obtain⟨u1,hu1,ru1⟩:=rv1.get hx
  refine wpAny_pyNext_enum_item he h1 p1.isList (x:=u1) (by simpa using hu1) hei fun h' a1 a2 a3 a4 a5=>?_
  refine⟨_,rfl,wpAny_letOwnedTupleGo_enum (s:={ s with heap:=h',toks:=s.toks + 1 }) a1 fun h'' z2 sb=>?_⟩
  have sb':=sb.extBut
  generalize hT:s.heap.objs.size=T at *
  have lt:∀{b:Addr}{o:Obj},s.heap.get? b=some o->b≠T:=fun {b o} e=>by rw [<- hT];exact Nat.ne_of_lt (Heap.lt_size e)
  have fresh:H T=none:=by rw [<- hT];exact I.hok.fresh (Nat.le_refl _)
  have hne:∀b∈[e,it],b≠T:=fun b hb=>by
   obtain⟨o1,e1,_⟩:=h1
   simp only [List.mem_cons,List.not_mem_nil,or_false] at hb
   rcases hb with rfl | rfl
   ·exact lt he
   ·exact lt e1
  have I0:Inv X pins σ (upd H T (.tup [.int i,x])) { s with heap:=s.heap.push { cls:=.type "tuple",data:=.seq #[.int i s.toks,u1] },toks:=s.toks }:=by
   subst hT
   exact I.laid (t':=s.toks) (fun b o q=>Heap.get?_push_of_some _ q) (Nat.le_refl _) ⟨by show 2<=sizeLine;decide,[.int i s.toks,u1],.cons ⟨_,rfl⟩ (.cons ru1 .nil),_,Heap.get?_push_size _ rfl,rfl,0,rfl⟩
  have up:∀b o,b∉[e,it]->(s.heap.push { cls:=.type "tuple",data:=.seq #[.int i s.toks,u1] }).get? b=some o->h''.get? b=some o:=fun b o hb q=>by
   simp only [List.mem_cons,List.not_mem_nil,or_false,not_or] at hb
   rcases Heap.get?_push_cases q with ⟨e1,e2⟩ | e1
   ·subst e2
    rw [e1,hT]
    exact sb' _ _ (hne e (by simp)).symm a3
   ·exact sb' _ _ hb.1 (a5 b o hb.1 hb.2 e1)
  have I2:Inv X pins σ (upd H T (.tup [.int i,x])) { s with heap:=h'',toks:=s.toks + 1 }:=Inv.turnedS (s:={ s with heap:=s.heap.push { cls:=.type "tuple",data:=.seq #[.int i s.toks,u1] },toks:=s.toks }) (t':=s.toks + 1) (ch:=[e,it]) I0 up fun b hb=>by
   obtain⟨f0,f1⟩:=hf b hb
   exact⟨by rw [ag (hne b hb)];exact f0,f1⟩
  exact⟨.ref T,upd H T (.tup [.int i,x]),I2,rfl,⟨T,x,rfl,fresh,rfl,fun ws hw=>by rw [I.list_inj hw hq1];exact hx⟩,
   ⟨⟨_,by simpa using z2⟩,a2.at fun o q=>sb' _ _ hei.symm q⟩,fun b hb=>by rw [ag (hne b hb)];exact (hf b hb).1⟩
 done:=by
  intro X hP hw hK hc i pins s σ H E I hf st hg
  subst hP hw hK
  obtain⟨xs,hq1,hx⟩:=hg
  obtain⟨⟨old,he⟩,h1⟩:=id st
  obtain⟨its1,rv1,p1,hz1⟩:=I.list hq1
  have hl1:=rv1.length
  refine wpAny_pyNext_enum_end (I.ok.hd hc) he h1 p1.isList (by simp;omega) fun h' hk=>⟨rfl,I.turnedS (t':=s.toks) (ch:=[e,it]) (fun b o hb q=>?_) hf⟩
  simp only [List.mem_cons,List.not_mem_nil,or_false,not_or] at hb
  exact hk b o hb.2 q
 self:=fun _ _ _ _ _ st h=>by obtain⟨⟨old,he⟩,_⟩:=st;exact wpAny_pyIter_enum he h
theorem hX:bootBuiltins "enumerate"=some (.type "enumerate"):=by decide +kernel
section
variable {X:Cx}
noncomputable def qp (K:PySem.W.Frag) (ta:TA):TI:=fun σ H R=>ta σ H fun vs H1=>∃a xs,vs=[.ref a]/\SqL K H1 a xs/\R (Ite K a) H1
theorem i7 {a:Expr}{elts:List Expr}{x1}{tpos:Pos}{ta:TA}{p pos:Pos} (hg:Gl X "enumerate") (hm:X.mg "enumerate"=none) (ha:PA X [a] ta) (hs:starEach [a] X.env=[(false,eval a X.env)]:=by rfl) :
  PI X (.Tuple elts x1 tpos) (.Call (.Name "enumerate" p) [a] [] pos) (qp X.K ta):=by
 intro pins s σ H R I h
 refine Call_ (bO I hg hm hX (PyProof.Rows.callWith_type1 (thn (ha pos pins s σ H _ I h) fun us s1 ⟨vs,H1,I1,r1,q1⟩=>?_) (by rw [hs];rfl) rfl))
 obtain⟨a',xs,rfl,hq1,q⟩:=q1
 obtain⟨u1,rfl,ra⟩:=vals1 r1
 cases ra
 obtain⟨its1,rv1,p1,hz1⟩:=I1.list hq1
 refine call_enumerate_list p1.isList fun h' he hit hsz hk=>?_
 refine wpAny_pyIter_enum he ?_
 refine⟨s1.heap.objs.size + 1,[s1.heap.objs.size + 1,s1.heap.objs.size],_,_,H1,rfl,I1.kept (t':=s1.toks) hk,mj _ _ _ (Nat.succ_ne_self _),⟨⟨_,he⟩,hit⟩,fun b hb=>?_,q⟩
 have hle:s1.heap.objs.size<=b:=by
  simp only [List.mem_cons,List.not_mem_nil,or_false] at hb
  rcases hb with rfl | rfl
  ·exact Nat.le_add_right _ _
  ·exact Nat.le_refl _
 exact I1.fpOk hle (I1.hok.fresh hle)
end
end L2
namespace L2
open PySem PySem.Spec PyProof.Rows PySem.W PySem.Calls
section
variable {X:Cx}
end
noncomputable def fX:Value->Str
 | .str x _=>x
 | _=>default
structure rT (w:World) (o:Obj) (ss:List Str) (es:Array (Int×Value)) (ep:Nat) (t:SetTable):Prop where
 cls:o.cls=.type "set"
 dic:o.dict=none
 slo:o.slots=#[]
 dat:o.data=.set es ep t
 els:∀e∈es.toList,∃tk,e.2=.str (fX e.2) tk/\e.1=hashStr w (fX e.2)
 all:(es.toList.map fun e=>fX e.2).Perm ss
 one:ss.Nodup
 few:ss.length < 4000
 fit:t.fits es.size=true
 led:t.led=!w.params.followText "set-order"
 pla:es.size=0\/t.plain=false
section
variable {prog:Program}{w:World}{A:Around}{E:Value->Shared->Prop}{s:Shared}
end
section
variable {prog:Program}{w:World}{A:Around}{E:Value->Shared->Prop}{s:Shared}
end
section
variable {prog:Program}{w:World}{A:Around}{E:Value->Shared->Prop}{s:Shared}
end
end L2
set_option maxHeartbeats 8000000
namespace L2
open PySem PySem.Spec PyProof.Rows PySem.W PySem.Calls
section
variable {prog:Program}{w:World}{A:Around}{E:Value->Shared->Prop}{s:Shared}
end
noncomputable def rD (first:Value) (i:Nat) (a:Addr) (n ep:Nat):Array Value:=#[first,rawInt (i:Int),.ref a,rawInt (n:Int),rawInt (ep:Int)]
noncomputable def sk (h:Heap) (I:Addr) (first:Value) (i:Nat) (a:Addr) (n ep:Nat):Prop:=∃o,h.get? I=some o/\o.cls=.type "set_iterator"/\o.data=.fields (rD first i a n ep)
section
variable {prog:Program}{w:World}{A:Around}{E:Value->Shared->Prop}{s:Shared}
end
section
variable {prog:Program}{w:World}{A:Around}{E:Value->Shared->Prop}{s:Shared}
end
section
variable {prog:Program}{w:World}{A:Around}{E:Value->Shared->Prop}{s:Shared}
structure rW (prog:Program) (w:World) (A:Around) (s s₁:Shared) (a I:Addr) (ss:List Str) (fp:List Addr) (ws:List Value) (St:Nat->Heap->Prop):Prop where
 os:s₁.os=s.os
 gens:s₁.gens=s.gens
 toks:s₁.toks=s.toks
 keep:∀b o,s.heap.get? b=some o->s₁.heap.get? b=some o
 new:∀b∈fp,b=a\/s.heap.objs.size<=b
 newI:s.heap.objs.size<=I
 wk:Walks prog w A I fp [I] ss.length (fun i v=>ws[i]?=some v) St
 st:St 0 s₁.heap
 txt:∃ss',StrsAre ws ss'/\ss'.Perm ss
end
section
variable {prog:Program}{w:World}{A:Around}{E:Value->Shared->Prop}{s:Shared}
end
section
variable {prog:Program}{w:World}{A:Around}{E:Value->Shared->Prop}{s:Shared}
end
section
variable {prog:Program}{w:World}{A:Around}{E:Value->Shared->Prop}{s:Shared}
end
section
variable {X:Cx}
end
theorem pairs_at {P:Program}{w:World}:∀{es:List DictEntry}{kvs:List (Key×Value)},Pairs (bt P w) es kvs->∀{i:Nat}{p:Key×Value},kvs[i]?=some p->∃e,es[i]?=some e/\cD p.1 e.key=true
 | _,_,.cons h1 h2 t,0,p,h=>by
  simp at h
  subst h
  exact⟨_,rfl,h1⟩
 | _,_,.cons h1 h2 t,i + 1,p,h=>by simpa using pairs_at t (by simpa using h)
theorem pM {k:Key}{v:Value} (h:cD k v=true):RelV (kV k) v:=by
 rcases bR h with ⟨i,t,rfl,rfl⟩ | ⟨x,t,rfl,rfl⟩
 ·exact⟨t,rfl⟩
 ·exact⟨t,rfl⟩
theorem Inv.freezeK {X:Cx}{pins:List (Addr×Obj)}{σ:St}{H:Hp}{s:Shared}{a:Addr}{o:Obj}{kvs:List (Key×V)} (I:Inv X pins σ H s) (e:H a=some (.dK kvs)) (ho:s.heap.get? a=some o):Inv X pins σ (upd H a (.frz o (.dK kvs))) s:=by
 have ne:∀b u,H b=some u->(∀k,u≠.dK k)->b≠a:=fun b u q n z=>by
  rw [z,e] at q
  cases q
  exact n _ rfl
 have st:∀{b:Addr}{u:HO},aC X.prog X.w H s.heap b u->aC X.prog X.w (upd H a (.frz o (.dK kvs))) s.heap b u:=fun x=>x.stay (fun _ _ _ q=>q) (fun b q=>by rw [ag (ne b _ q (by intro k z;cases z))];exact q) fun b xs q=>by rw [ag (ne b _ q (by intro k z;cases z))];exact q
 refine I.step (h':=s.heap) (g':=s.gens) (t':=s.toks) (d':=s.drawn) (ch:=[]) (fun _ z=>nomatch z) (fun b o _ _ _ q _=>q) (fun b o _ _ _ q _=>⟨o.slots,q⟩) (fun b o' _ q n=>?_) (fun b o _ q=>⟨o,q⟩) (fun b xs q=>?_) (fun b o u q=>?_) (fun b ps q=>?_) (fun m h=>h) (fun b u q=>?_) I.bare
 ·rw [ag (fun z=>by rw [z,e] at n;cases n)];exact n
 ·rw [ag (ne b _ q (by intro k z;cases z))];exact q
 ·rw [ag (ne b _ q (by intro k z;cases z))];exact q
 ·exact⟨#[],by rw [ag (ne b _ q (by intro k z;cases z)),q];simp⟩
 ·by_cases hb:b=a
  ·subst hb
   rw [ai] at q
   cases q
   exact⟨ho,st (I.hok b _ e)⟩
  ·rw [ag hb] at q
   exact st (I.hok b u q)
noncomputable def Itk (a:Addr) (o:Obj):It :=
 ⟨fun i H=>∃kvs,H a=some (.frz o (.dK kvs))/\i < kvs.length,
  fun i H v H'=>H'=H/\∀kvs,H a=some (.frz o (.dK kvs))->∃p,kvs[i]?=some p/\v=kV p.1,
  fun i H=>∃kvs,H a=some (.frz o (.dK kvs))/\kvs.length<=i⟩
theorem lN {P:Program}{w:World}{K:PySem.W.Frag}{tg:Expr} (a it:Addr) (o:Obj) (es:Array DictEntry) (ep:Nat) (hd:o.data=.dict es ep):Turn P w K tg (Itk a o) [it] it (fun i h=>h.IsKeyIter it a i es.size ep) where
 mem:=by simp
 obj:=fun i h st b hb=>by
  have e:b=it:=by simpa using hb
  subst e
  obtain⟨o,e,c,d⟩:=st
  exact⟨o,e,fun v z=>by rw [d] at z;cases z⟩
 keep:=fun i h h' st k=>st.at fun o e=>k it (by simp) o e
 item:=by
  intro X hP hw hK hc i pins s σ H E I hf st hg
  subst hP hw hK
  obtain⟨kvs,ha,lt⟩:=hg
  obtain⟨ho,_,_,vs,rel,o2,es2,ep2,h1,_,h2,_,h3,_⟩:=(show aC X.prog X.w H s.heap a (.frz o (.dK kvs)) from I.hok a _ ha)
  rw [ho] at h1
  cases h1
  rw [hd] at h2
  cases h2
  have hl:=Paired.length rel
  have hes:es.size=vs.length:=by rw [<- Array.length_toList];exact h3.length
  have lt2:i < es.size:=by omega
  obtain⟨p,hp⟩:∃p,kvs[i]?=some p:=⟨_,List.getElem?_eq_getElem lt⟩
  obtain⟨y,hy,r1,r2⟩:=Paired.at rel hp
  obtain⟨en,he,hk⟩:=pairs_at h3 hy
  have ek:es[i]=en:=by
   rw [Array.getElem?_toList,Array.getElem?_eq_getElem lt2] at he
   exact Option.some.inj he
  obtain⟨f0,f1,f2,f3,f4,f5⟩:=hf it (by simp)
  refine jn st ho hd lt2 fun h' st' sb=>?_
  rw [ek]
  have I1:Inv X pins σ H { s with heap:=h' }:=I.turned (t':=s.toks) (fun b o hb e=>(sb.2 b hb).trans e) f0 f1 f3 f4 f5
  obtain⟨o',e,c,d⟩:=id st'
  rw [<- r1] at hk
  exact⟨_,rfl,dq (s:={ s with heap:=h' }) e c d (by decide) ⟨kV p.1,H,I1,pM hk,⟨rfl,fun kvs' ha'=>by rw [ha] at ha';cases ha';exact⟨p,hp,rfl⟩⟩,st',fun b hb=>(hf b hb).1⟩⟩
 done:=by
  intro X hP hw hK hc i pins s σ H E I hf st hg
  subst hP hw hK
  obtain⟨kvs,ha,ge⟩:=hg
  obtain⟨ho,_,_,vs,rel,o2,es2,ep2,h1,_,h2,_,h3,_⟩:=(show aC X.prog X.w H s.heap a (.frz o (.dK kvs)) from I.hok a _ ha)
  rw [ho] at h1
  cases h1
  rw [hd] at h2
  cases h2
  have hl:=Paired.length rel
  have hes:es.size=vs.length:=by rw [<- Array.length_toList];exact h3.length
  obtain⟨f0,f1,f2,f3,f4,f5⟩:=hf it (by simp)
  exact jK (I.ok.hd hc) st ho hd (by omega) fun h' eb=>⟨rfl,I.turned (t':=s.toks) (fun b o hb e=>eb b o hb e) f0 f1 f3 f4 f5⟩
 self:=fun _ _ _ _ _ st h=>wpAny_pyIter_keyiter st h
section
variable {X:Cx}{tg:Expr}
noncomputable def pH (tl:TE):TI:=fun σ H R=>tl σ H fun x H1=>∃a kvs,x=.ref a/\H1 a=some (.dK kvs)/\∀o,R (Itk a o) (upd H1 a (.frz o (.dK kvs)))
theorem mR {l:Expr}{tl:TE} (hl:PE X l tl):PI X tg l (pH tl):=by
 intro pins s σ H R I h
 refine thn (hl pins s σ H _ I h) fun v s1 ⟨x,H1,I1,r1,q1⟩=>?_
 obtain⟨a,kvs,rfl,ha,q⟩:=q1
 cases r1
 obtain⟨_,nd,vs,rel,o,es,ep,ho,ex,hd,_,h3,_⟩:=(show aC X.prog X.w H1 s1.heap a (.dK kvs) from I1.hok a _ ha)
 refine jd nd ho ex hd ?_
 have I2:=I1.freezeK ha ho
 refine⟨s1.heap.objs.size,[s1.heap.objs.size],_,_,_,rfl,I2.kept (t':=s1.toks) fun b o e=>Heap.get?_push_of_some _ e,lN a _ o es ep hd,⟨_,Heap.get?_push_size _ rfl,rfl,rfl⟩,fun b hb=>?_,q o⟩
 have e:b=s1.heap.objs.size:=by simpa using hb
 subst e
 exact I2.fpOk (Nat.le_refl _) (I2.hok.fresh (Nat.le_refl _))
end
theorem lX {g:TG}{tt:TT}{te:TE}{σ':St}{fin:List V->Hp->Prop}{H1:Hp}{a:Addr}{o:Obj}{kvs:List (Key×V)} (hn:kvs.length < sizeLine) (Pv:Nat->List V->St->Hp->Prop) (h0:Pv 0 [] σ' H1) (hl:∀i ys σ H,i<=kvs.length->Pv i ys σ H->ys.length<=i/\H a=some (.frz o (.dK kvs)))
  (hs:∀i p ys σ H,kvs[i]?=some p->Pv i ys σ H->g (kV p.1) σ H fun σ2 H2=>tt σ2 H2 fun b H3=>if b=true then te σ2 H3 (fun v H4=>Pv (i + 1) (ys++[v]) σ2 H4) else Pv (i + 1) ys σ2 H3) (hd:∀ys σ H,Pv kvs.length ys σ H->fin ys H) :
  LcW (Itk a o) g tt te σ' fin H1:=by
 refine⟨fun i m ys σ H=>m=kvs.length - i/\i<=kvs.length/\Pv i ys σ H,⟨kvs.length,by simp,Nat.zero_le _,h0⟩,?_⟩
 rintro i m ys σ H ⟨rfl,hi,p⟩
 obtain⟨q0,q1⟩:=hl i ys σ H hi p
 by_cases h:i < kvs.length
 ·refine .inr ⟨⟨kvs,q1,h⟩,by omega,fun ys' σ2 H2=>Pv (i + 1) ys' σ2 H2,fun ys' σ2 H2 q=>⟨kvs.length - (i + 1),by omega,rfl,h,q⟩,fun v H' y=>?_⟩
  obtain⟨rfl,y⟩:=y
  obtain⟨p',e1,rfl⟩:=y kvs q1
  exact hs i p' ys σ H' e1 p
 ·have e:i=kvs.length:=by omega
  subst e
  exact .inl ⟨⟨kvs,q1,Nat.le_refl _⟩,by omega,hd ys σ H p⟩
end L2
namespace L2
open PySem
section
variable {X:Cx}{scope:Scope}{N:List Str}{ix:List (Option Nat)}
variable {tg iter kx vx:Expr}{ifs:List Expr}{pos:Pos}{g:TG}{tt:TT}{tk tv:TE}
end
noncomputable def iOr (t u:TI):TI:=fun σ H R=>t σ H R\/u σ H R
theorem jR {X:Cx}{tg l:Expr}{t u:TI} (h1:PI X tg l t) (h2:PI X tg l u):PI X tg l (iOr t u):=fun pins s σ H R I h =>
 h.elim (h1 pins s σ H R I) (h2 pins s σ H R I)
theorem mO {K:PySem.W.Frag}{tl:TE}{g:TG}{tb:TS}{D:Ends}{σ:St}{H Hb:Hp}{a:Addr}{xs:List V} (htl:∀Q:VK,Q (.ref a) H->tl σ H Q) (hb:Hb a=some (.lst xs)\/Hb a=some (.tup xs)) (s0:ae Hb H) (Pv:Nat->St->Hp->Prop) (h0:Pv 0 σ H) (hl:∀i σ' H',i<=xs.length->Pv i σ' H'->ae Hb H')
  (hs:∀i x σ H,xs[i]?=some x->Pv i σ H->g x σ H fun σ2 H2=>tb { D with nx:=Pv (i + 1),ct:=Pv (i + 1),bk:=D.nx } σ2 H2) (hd:∀σ H,Pv xs.length σ H->D.nx σ H):ki (iOr (jZ K tl) (kq K tl)) g tb D σ H:=by
 rcases hb with hb | hb
 ·exact .inl (htl _ ⟨a,rfl,⟨xs,SqL.of (s0 _ _ hb)⟩,fu Pv h0 (fun i σ H' hi p=>SqL.of (hl i σ H' hi p _ _ hb)) hs hd⟩)
 ·exact .inr (htl _ ⟨a,rfl,⟨xs,SqT.of (s0 _ _ hb)⟩,fG Pv h0 (fun i σ H' hi p=>SqT.of (hl i σ H' hi p _ _ hb)) hs hd⟩)
theorem nc {a:Addr}{o:Obj}{kvs:List (List Key×V)}{g:TG}{tb:TS}{D:Ends}{σ:St}{H:Hp} (Pv:Nat->St->Hp->Prop) (h0:Pv 0 σ H) (hl:∀i σ H,i<=kvs.length->Pv i σ H->H a=some (.frz o (.dT kvs)))
  (hs:∀i p b σ H,kvs[i]?=some p->H b=some (.tup (p.1.map kV))->Pv i σ H->g (.ref b) σ H fun σ2 H2=>tb { D with nx:=Pv (i + 1),ct:=Pv (i + 1),bk:=D.nx } σ2 H2) (hd:∀σ H,Pv kvs.length σ H->D.nx σ H) :
  ∃W:Nat->Nat->St->Hp->Prop,(∃m,W 0 m σ H)/\∀i m σ H,W i m σ H ->
   ((Itd a o).stop i H/\D.nx σ H)\/((Itd a o).go i H/\∃N:St->Hp->Prop,(∀σ' H',N σ' H'->∃m',m' < m/\W (i + 1) m' σ' H')/\∀x H',(Itd a o).yld i H x H'->g x σ H' fun σ2 H2=>tb { D with nx:=N,ct:=N,bk:=D.nx } σ2 H2):=by
 refine⟨fun i m σ H=>m=kvs.length - i/\i<=kvs.length/\Pv i σ H,⟨kvs.length,by simp,Nat.zero_le _,h0⟩,?_⟩
 rintro i m σ H ⟨rfl,hi,p⟩
 have q:=hl i σ H hi p
 by_cases hlt:i < kvs.length
 ·refine .inr ⟨⟨kvs,q,hlt⟩,Pv (i + 1),fun σ' H' p'=>⟨kvs.length - (i + 1),by omega,rfl,hlt,p'⟩,fun x H' y=>?_⟩
  obtain⟨e,y⟩:=y
  subst e
  obtain⟨p',b,e1,rfl,e2⟩:=y kvs q
  exact hs i p' b σ _ e1 e2 p
 ·have e:i=kvs.length:=by omega
  subst e
  exact .inl ⟨⟨kvs,q,Nat.le_refl _⟩,hd σ H p⟩
end L2
namespace L2
open PySem PySem.Spec PyProof.Rows
open AutoSeq1 (wpAny_loadPart')
section
variable {prog:Program}{w:World}{A:Around}{E:Value->Shared->Prop}{s:Shared}
theorem jM (hh:A.handled=none) (it t:Addr) (ne:t≠it) (its:Array Value):Draws prog w A it [it,t] its.size (fun i v=>its[i]?=some v) (fun i h=>h.IsTupleIter it t i/\h.IsTuple t its) where
 live:=fun _ _ st=>let ⟨o,ho,_⟩:=st.1;⟨o,ho⟩
 frame:=fun _ _ _ st k=>⟨st.1.at fun o e=>k it (by simp) o e,st.2.at fun o e=>k t (by simp) o e⟩
 item:=fun i s Q E hi st q=>fF st.1 st.2 (v:=its[i]) (by simp [hi]) fun G j b=>q _ G s.toks (by simp [hi]) ⟨j,st.2.extBut b.extBut ne⟩ b
 done:=fun s Q E st k=>jz hh st.1 st.2 (by simp) k
theorem m6 (t:Addr) (its:Array Value):Meets (Builtin.«enumerate.__new__» ⟨[.type "enumerate",.ref t],[]⟩) (fun _ R s=>s.heap.IsTuple t its /\
   R (.ok (.ret (.ref (s.heap.push { cls:=.type "tuple_iterator",data:=.fields #[.ref t,.int 0 0] }).objs.size)))
    { s with heap:=(s.heap.push { cls:=.type "tuple_iterator",data:=.fields #[.ref t,.int 0 0] }).push { cls:=.type "enumerate",data:=.fields #[.none,.bool false,.ref s.heap.objs.size,rawInt 0,.none,.none] } }) :=
 .of_wp fun prog w A R s h=>by
  obtain⟨hp,g,d,tk,os⟩:=s;obtain⟨hT,h⟩:=h
  have sb:=sub_enumerate;obtain⟨o,ho,_⟩:=id hT
  wp_walk using wpAny_loadPart' ho
  refine wpAny_stack_any fun st=>wpAny_pure ?_
  split
  ·rename_i c _ _ _ _ _
   cases (c == Value.type "enumerate") <;> (wp_walk using wpAny_loadPart' ho,wpAny_pyIter_tuple hT;exact⟨_,rfl,h⟩)
  ·wp_walk using wpAny_loadPart' ho,wpAny_pyIter_tuple hT;exact⟨_,rfl,h⟩
theorem nN {t:Addr}{its:Array Value}{Q:Value->Shared->Prop} (hT:s.heap.IsTuple t its)
  (q:∀G,IsEnum G (s.heap.objs.size + 1) s.heap.objs.size 0 .none->G.IsTupleIter s.heap.objs.size t 0->(∀c o,s.heap.get? c=some o->G.get? c=some o)->Q (.ref (s.heap.objs.size + 1)) { s with heap:=G }) :
  wpAny (model prog w) A (call (.type "enumerate") [.ref t]) Q E s:=by
 refine callType_new F.called_enumerate (by decide) (F.typeCall_enumerate_1 _) (F.newCall_enumerate_1 _) (fun obj=>F.args_object_init_2 obj _) F.entry_enumerate_new (m6 t its) ⟨hT,?_⟩
 have z:(s.heap.push { cls:=.type "tuple_iterator",data:=.fields #[.ref t,.int 0 0] }).objs.size=s.heap.objs.size + 1:=Heap.size_push ..
 have g2:=Heap.get?_push_size (s.heap.push { cls:=.type "tuple_iterator",data:=.fields #[.ref t,.int 0 0] }) (o:={ cls:=.type "enumerate",data:=.fields #[.none,.bool false,.ref s.heap.objs.size,rawInt 0,.none,.none] }) rfl
 show _/\_
 rw [z] at g2 ⊢
 exact⟨⟨_,g2,rfl⟩,q _ g2 ⟨_,Heap.get?_push_of_some _ (Heap.get?_push_size _ rfl),rfl,rfl⟩ fun c o e=>Heap.get?_push_of_some _ (Heap.get?_push_of_some _ e)⟩
end
noncomputable def ItT (K:PySem.W.Frag) (a:Addr):It :=
 ⟨fun i H=>∃xs x,SqT K H a xs/\xs[i]?=some x,
  fun i H v H'=>∃T x,v=.ref T/\H T=none/\H'=upd H T (.tup [.int i,x])/\∀xs,SqT K H a xs->xs[i]?=some x,
  fun i H=>∃xs,SqT K H a xs/\xs.length=i⟩
noncomputable def qT (e it l:Addr) (i:Nat) (h:Heap):Prop:=(∃old,IsEnum h e it i old)/\h.IsTupleIter it l i
theorem om {P:Program}{w:World}{K:PySem.W.Frag}{elts:List Expr}{x1}{pos:Pos} (e it l:Addr) (hei:e≠it) (hle:l≠e) (hli:l≠it) :
  Turn P w K (.Tuple elts x1 pos) (ItT K l) [e,it] e (qT e it l) where
 mem:=by simp
 obj:=fun i h st b hb=>by
  obtain⟨⟨old,he⟩,⟨o1,e1,c1,d1⟩⟩:=st
  simp only [List.mem_cons,List.not_mem_nil,or_false] at hb
  rcases hb with rfl | rfl
  ·exact⟨_,he,fun v q=>by cases q⟩
  ·exact⟨_,e1,fun v q=>by rw [d1] at q;cases q⟩
 keep:=fun i h h' st k=>by
  obtain⟨⟨old,he⟩,h1⟩:=st
  exact⟨⟨old,k e (by simp) _ he⟩,h1.at fun o q=>k it (by simp) o q⟩
 item:=by
  intro X hP hw hK hc i pins s σ H E I hf st hg
  subst hP hw hK
  obtain⟨xs,x,hq1,hx⟩:=hg
  obtain⟨⟨old,he⟩,h1⟩:=id st
  obtain⟨its1,rv1,p1,hz1⟩:=I.tuple hq1
  obtain⟨u1,hu1,ru1⟩:=rv1.get hx
  have hlt:i < its1.toArray.size:=by
   have:=(List.getElem?_eq_some_iff.mp hu1).1
   simpa using this
  refine wpAny_pyNext_enum_itemD (jM (A:=X.A.in1) (I.ok.hd hc) it l hli its1.toArray) he ⟨h1,p1⟩ hlt hei (by simp [hei,hle.symm]) fun x' h' tk hx' a1 a2 a3 a4 a5=>?_
  have ex:x'=u1:=by
   have:its1.toArray[i]?=some u1:=by simpa using hu1
   exact Option.some.inj (hx'.symm.trans this)
  subst ex
  refine⟨_,rfl,wpAny_letOwnedTupleGo_enum (s:={ s with heap:=h',toks:=tk + 1 }) a1 fun h'' z2 sb=>?_⟩
  have sb':=sb.extBut
  generalize hT:s.heap.objs.size=T at *
  have lt:∀{b:Addr}{o:Obj},s.heap.get? b=some o->b≠T:=fun {b o} e=>by rw [<- hT];exact Nat.ne_of_lt (Heap.lt_size e)
  have fresh:H T=none:=by rw [<- hT];exact I.hok.fresh (Nat.le_refl _)
  have hne:∀b∈[e,it],b≠T:=fun b hb=>by
   obtain⟨o1,e1,_⟩:=h1
   simp only [List.mem_cons,List.not_mem_nil,or_false] at hb
   rcases hb with rfl | rfl
   ·exact lt he
   ·exact lt e1
  have I0:Inv X pins σ (upd H T (.tup [.int i,x])) { s with heap:=s.heap.push { cls:=.type "tuple",data:=.seq #[.int i tk,x'] },toks:=s.toks }:=by
   subst hT
   exact I.laid (t':=s.toks) (fun b o q=>Heap.get?_push_of_some _ q) (Nat.le_refl _) ⟨by show 2<=sizeLine;decide,[.int i tk,x'],.cons ⟨_,rfl⟩ (.cons ru1 .nil),_,Heap.get?_push_size _ rfl,rfl,0,rfl⟩
  have up:∀b o,b∉[e,it]->(s.heap.push { cls:=.type "tuple",data:=.seq #[.int i tk,x'] }).get? b=some o->h''.get? b=some o:=fun b o hb q=>by
   simp only [List.mem_cons,List.not_mem_nil,or_false,not_or] at hb
   rcases Heap.get?_push_cases q with ⟨e1,e2⟩ | e1
   ·subst e2
    rw [e1,hT]
    exact sb' _ _ (hne e (by simp)).symm a3
   ·exact sb' _ _ hb.1 (a5 b o hb.1 hb.2 e1)
  have I2:Inv X pins σ (upd H T (.tup [.int i,x])) { s with heap:=h'',toks:=tk + 1 }:=Inv.turnedS (s:={ s with heap:=s.heap.push { cls:=.type "tuple",data:=.seq #[.int i tk,x'] },toks:=s.toks }) (t':=tk + 1) (ch:=[e,it]) I0 up fun b hb=>by
   obtain⟨f0,f1⟩:=hf b hb
   exact⟨by rw [ag (hne b hb)];exact f0,f1⟩
  exact⟨.ref T,upd H T (.tup [.int i,x]),I2,rfl,⟨T,x,rfl,fresh,rfl,fun ws hw=>by rw [I.tuple_inj hw hq1];exact hx⟩,
   ⟨⟨_,by simpa using z2⟩,a2.1.at fun o q=>sb' _ _ hei.symm q⟩,fun b hb=>by rw [ag (hne b hb)];exact (hf b hb).1⟩
 done:=by
  intro X hP hw hK hc i pins s σ H E I hf st hg
  subst hP hw hK
  obtain⟨xs,hq1,hx⟩:=hg
  obtain⟨⟨old,he⟩,h1⟩:=id st
  obtain⟨its1,rv1,p1,hz1⟩:=I.tuple hq1
  have hl1:=rv1.length
  have en:i=its1.toArray.size:=by simp;omega
  subst en
  refine wpAny_pyNext_enum_endD (jM (A:=X.A.in1) (I.ok.hd hc) it l hli its1.toArray) he ⟨h1,p1⟩ fun h' hk=>⟨rfl,I.turnedS (t':=s.toks) (ch:=[e,it]) (fun b o hb q=>?_) hf⟩
  simp only [List.mem_cons,List.not_mem_nil,or_false,not_or] at hb
  exact hk b o hb.2 q
 self:=fun _ _ _ _ _ st h=>by obtain⟨⟨old,he⟩,_⟩:=st;exact wpAny_pyIter_enum he h
section
variable {X:Cx}
noncomputable def rE (K:PySem.W.Frag) (ta:TA):TI:=fun σ H R=>ta σ H fun vs H1=>∃a xs,vs=[.ref a]/\SqT K H1 a xs/\R (ItT K a) H1
theorem pU {a:Expr}{elts:List Expr}{x1}{tpos:Pos}{ta:TA}{p pos:Pos} (hg:Gl X "enumerate") (hm:X.mg "enumerate"=none) (ha:PA X [a] ta) (hs:starEach [a] X.env=[(false,eval a X.env)]:=by rfl) :
  PI X (.Tuple elts x1 tpos) (.Call (.Name "enumerate" p) [a] [] pos) (rE X.K ta):=by
 intro pins s σ H R I h
 refine Call_ (bO I hg hm hX (PyProof.Rows.callWith_type1 (thn (ha pos pins s σ H _ I h) fun us s1 ⟨vs,H1,I1,r1,q1⟩=>?_) (by rw [hs];rfl) rfl))
 obtain⟨a',xs,rfl,hq1,q⟩:=q1
 obtain⟨u1,rfl,ra⟩:=vals1 r1
 cases ra
 obtain⟨its1,rv1,p1,hz1⟩:=I1.tuple hq1
 have hlt:a' < s1.heap.objs.size:=by obtain⟨o,ho,_⟩:=id p1;exact Heap.lt_size ho
 refine nN p1 fun G he hit hk=>wpAny_pyIter_enum he ?_
 refine⟨s1.heap.objs.size + 1,[s1.heap.objs.size + 1,s1.heap.objs.size],_,_,H1,rfl,I1.kept (t':=s1.toks) hk,om _ _ _ (Nat.succ_ne_self _) (Nat.ne_of_lt (Nat.lt_succ_of_lt hlt)) (Nat.ne_of_lt hlt),⟨⟨_,he⟩,hit⟩,fun b hb=>?_,q⟩
 have hle:s1.heap.objs.size<=b:=by
  simp only [List.mem_cons,List.not_mem_nil,or_false] at hb
  rcases hb with rfl | rfl
  ·exact Nat.le_add_right _ _
  ·exact Nat.le_refl _
 exact I1.fpOk hle (I1.hok.fresh hle)
end
end L2
namespace L2
open PySem
theorem oq {K:PySem.W.Frag}{a:Addr}{xs:List V}{g:TG}{tb:TS}{D:Ends}{σ:St}{H:Hp} (Pv:Nat->St->Hp->Prop) (h0:Pv 0 σ H) (hl:∀i σ H,i<=xs.length->Pv i σ H->SqT K H a xs)
  (hs:∀i x σ H T,xs[i]?=some x->Pv i σ H->H T=none->g (.ref T) σ (upd H T (.tup [.int i,x])) fun σ2 H2=>tb { D with nx:=Pv (i + 1),ct:=Pv (i + 1),bk:=D.nx } σ2 H2) (hd:∀σ H,Pv xs.length σ H->D.nx σ H) :
  ∃W:Nat->Nat->St->Hp->Prop,(∃m,W 0 m σ H)/\∀i m σ H,W i m σ H ->
   ((ItT K a).stop i H/\D.nx σ H)\/((ItT K a).go i H/\∃N:St->Hp->Prop,(∀σ' H',N σ' H'->∃m',m' < m/\W (i + 1) m' σ' H')/\∀x H',(ItT K a).yld i H x H'->g x σ H' fun σ2 H2=>tb { D with nx:=N,ct:=N,bk:=D.nx } σ2 H2):=by
 refine⟨fun i m σ H=>m=xs.length - i/\i<=xs.length/\Pv i σ H,⟨xs.length,by simp,Nat.zero_le _,h0⟩,?_⟩
 rintro i m σ H ⟨rfl,hi,p⟩
 have q:=hl i σ H hi p
 by_cases hlt:i < xs.length
 ·refine .inr ⟨⟨xs,xs[i],q,by simp [hlt]⟩,Pv (i + 1),fun σ' H' p'=>⟨xs.length - (i + 1),by omega,rfl,hlt,p'⟩,fun x H' y=>?_⟩
  obtain⟨T,x',rfl,hT,rfl,e1⟩:=y
  exact hs i x' σ H T (e1 xs q) p hT
 ·have e:i=xs.length:=by omega
  subst e
  exact .inl ⟨⟨xs,q,rfl⟩,hd σ H p⟩
end L2
namespace K81
open PySem L2
noncomputable def top (i:Nat):Stmt:=PySem.Challenge.pw_rootshares_k81_tables_and_determinants.main.body.getD i (.Pass ⟨0,0,0,0⟩)
theorem cq:bootBuiltins "isinstance"=some (.builtin "isinstance"):=by decide +kernel
theorem eX:bootBuiltins "all"=some (.builtin "all"):=by decide +kernel
theorem fA:bootBuiltins "sorted"=some (.builtin "sorted"):=by decide +kernel
theorem eM:bootBuiltins "repr"=some (.builtin "repr"):=by decide +kernel
theorem j9:bootBuiltins "max"=some (.builtin "max"):=by decide +kernel
theorem kf:bootBuiltins "min"=some (.builtin "min"):=by decide +kernel
theorem j8:bootBuiltins "str"=some (.type "str"):=by decide +kernel
theorem bB:bootBuiltins "tuple"=some (.type "tuple"):=by decide +kernel
theorem ph:bootBuiltins "list"=some (.type "list"):=by decide +kernel
theorem qy:bootBuiltins "int"=some (.type "int"):=by decide +kernel
theorem pY:bootBuiltins "bool"=some (.type "bool"):=by decide +kernel
structure Bl (mg:Str->Option Value):Prop where
 len:mg "len"=none
 isinstance:mg "isinstance"=none
 all:mg "all"=none
 range:mg "range"=none
 sorted:mg "sorted"=none
 repr:mg "repr"=none
 max:mg "max"=none
 min:mg "min"=none
 str:mg "str"=none
 tuple:mg "tuple"=none
 list:mg "list"=none
 int:mg "int"=none
 bool:mg "bool"=none
 zip:mg "zip"=none
 divmod:mg "divmod"=none
 abs:mg "abs"=none
 set:mg "set"=none
 enumerate:mg "enumerate"=none
 dict:mg "dict"=none
 lng:∃t,mg "LONGEST_NAME"=some (.int 8 t)
noncomputable def Fn (P:Program) (w:World) (K:PySem.W.Frag) (mg:Str->Option Value) (base:Heap) (k:Nat) (x:Str) (ps:List Str) (sp:Sp):Prop :=
 ∃f fd,mg x=some (.ref f)/\PySem.W.keepIn K (.ref f)=true/\Binds K fd ps []/\aH P w K mg base CX0 k f fd ps sp
theorem ar {X:Cx}{k:Nat}{x:Str}{ps:List Str}{sp:Sp}{e:Expr}{es:List Expr}{t:TA}{p pos:Pos} (F:Fn X.prog X.w X.K X.mg X.base k x ps sp) (hr:aK k X.A) (ha:PA X (e::es) t) (hg:Gl X x:=by rfl)
  (hdb:(x == ("__debug__":Str))=false:=by decide) (he:starEach (e::es) X.env=(false,eval e X.env)::starEach es X.env:=by rfl) (hpl:(backTo pos (starEach es X.env)).any (·.1)=false:=by rfl) :
  PE X (.Call (.Name x p) (e::es) [] pos) (jO sp [] E0 t):=by
 obtain⟨f,fd,h1,h2,h3,h4⟩:=F
 exact nT h4 hr hg h1 h2 h3 .nil qA ha hdb he hpl
theorem aO {X:Cx}{scope:Scope}{N:List Str}{C:Addr}{s0:Shared}{H0:Hp}{fp:List Addr}{x:Str}{pos:Pos} (i:Nat) (hN:N.Nodup) (hi:N[i]?=some x) (hx:scope.names.lookup x=some .local) :
  PG (aA X scope N C s0 H0 fp) (.Name x pos) (bC i) :=
 aZ (X:=aA X scope N C s0 H0 fp) hN hi (.inl (lookup_relabel_local hx)) (.inr (lookup_relabel_local hx))
theorem gk {c A B:Prop} [Decidable c] (hc:c) (h:A):if decide c=true then A else B:=by
 rw [decide_eq_true hc];exact bP h
theorem qJ {c A B:Prop} [Decidable c] (hc:¬ c) (h:B):if decide c=true then A else B:=by
 rw [decide_eq_false hc];exact bq h
theorem qm {c A B:Prop} [Decidable c] (hc:¬ c) (h:A):if (!decide c)=true then A else B:=by
 rw [decide_eq_false hc];exact bP h
theorem lt1 (a b:Nat):([a] < [b]) ↔ a < b:=by rw [List.cons_lt_cons_iff];simp
structure aJ (x:Str):Prop where
 lo:1<=x.length
 hi:x.length<=8
 az:∀c∈x.cps.toList,97<=c/\c<=122
theorem aJ.fits {x:Str} (h:aJ x):x.length < sizeLine:=by have:=h.hi;rw [sizeLine_eq];omega
theorem aJ.ascii {x:Str} (h:aJ x):x.cps.all (· < 128)=true:=by
 rw [Array.all_eq_true']
 intro c hc
 have:=h.az c (by simpa using hc)
 simp;omega
section
variable {P:Program}{w:World}{K:PySem.W.Frag}{mg:Str->Option Value}{base:Heap}
noncomputable def fS:Sp:=fun vs H Q _=>∃x,vs=[.str x]/\aJ x/\∀H',ae H H'->Q (.bl true) H'
theorem sc6:aQ ["thing"] ["thing"] (aF (top 6)):=⟨rfl,rfl,rfl,by decide +kernel,rfl,by decide +kernel,by decide +kernel⟩
theorem ao {H H':Hp}{p:Addr}{o:HO} (h:ae H H') (hp:H' p=none):ae H (upd H' p o):=fun b ob e=>by
 rw [ag (ax (h b ob e) hp)];exact h b ob e
theorem lE {f:Addr}{fd:FuncData} (F:Fun K "is_name" "is_name" (top 6) f fd) (B:Bl mg):aH P w K mg base CX0 1 f fd ["thing"] fS:=by
 refine F.ok sc6 (fun vs H Q E h=>?_) (fun cdv A outer s H vs Q E hr h=>?_)
 ·obtain⟨x,rfl,_⟩:=h
  rfl
 ·obtain⟨x,rfl,hx,k⟩:=h
  obtain⟨tl,hl⟩:=B.lng
  refine⟨_,ak (aV (PW.pt (bW (bI (bJ (aw (cu (T:="str")) rfl B.isinstance cq (aa (pv 0) (aa (cw (v:=.ty "str") rfl B.str j8 rfl) ab)))))
    (cA (bI (nt jS jS af (aw k7 rfl B.len PySem.boot_len (aa (pv 0) ab)) (nJ (v:=.int 8) rfl hl ⟨_,rfl⟩)))))) (aq (aI du)) aS)
   (aq (aI (aw (ef rfl) rfl B.all eX (aa (bb (N:=["letter"]) (ix:=[none]) ⟨rfl,rfl,rfl,by decide⟩ rfl (pA (pv 0)) (fun _ _ _ _=>aO 0 (by decide) rfl rfl) (fun _ _ _ _=>a9)
    (fun _ _ _ _=>nE hE hE cC (pv 0) cC)) ab)))),?_⟩
  refine⟨_,rfl,_,_,true,rfl,.str x,?kit,true,rfl,bq ?_⟩
  case kit=>rfl
  refine⟨_,rfl,x,rfl,Nat.le_of_lt hx.fits,_,_,rfl,rfl,_,rfl,gk (by have:=hx.lo;omega) ⟨_,_,rfl,rfl,_,rfl,?_⟩⟩
  refine eZ (by have:=hx.hi;omega) ?_
  refine⟨_,rfl,x,rfl,hx.ascii,m4 hx.fits (fun i ys σ H1=>ys=List.replicate i (.bl true)/\ae H H1/\∃v,σ=[v]) ⟨rfl,ae.refl _,_,rfl⟩ (fun i ys σ H1 _ q=>by rw [q.1];simp) ?_ ?_⟩
  ·rintro i c ys σ H1 hc ⟨rfl,hs,v,rfl⟩
   have hcm:=hx.az c (Array.mem_toList_iff.mpr (Array.mem_of_getElem? hc))
   refine⟨_,rfl,_,_,rfl,rfl,_,rfl,qm ?_ ⟨_,_,rfl,rfl,?_,hs,_,rfl⟩⟩
   ·show ¬ ([c] < [97])
    rw [lt1];omega
   ·have e:(!decide ([122] < [c]))=true:=by rw [decide_eq_false (by rw [lt1];omega)];rfl
    show _++[V.bl (!decide ([122] < [c]))]=_
    rw [e,List.replicate_succ']
  ·rintro ys σ H1 ⟨rfl,hs,v,rfl⟩ p hp
   refine⟨p,List.replicate x.length true,rfl,SqL.of (by rw [ai,List.map_replicate]),?_⟩
   have e:(List.replicate x.length true).all id=true:=by simp
   rw [e]
   exact k _ (ao hs hp)
end
theorem bN (K:PySem.W.Frag) {X:Cx} (h:X.K=K:=by rfl):IxR X (rIx K):=by subst h;exact aG
theorem lP (K:PySem.W.Frag) {X:Cx} (h:X.K=K:=by rfl):OpR X (compareOp .NotIn) (rIn K true):=by subst h;exact gy
theorem nG (K:PySem.W.Frag) {X:Cx} (h:X.K=K:=by rfl):bj X (.builtin "len") (fun xs H Q=>∃p ys,xs=[.ref p]/\(SqL K H p ys\/SqT K H p ys)/\Q (.int ys.length) H):=by subst h;exact bc
theorem dQ {α:Type}{xs:List α}{z:Int}{j:Nat}{v:α} (hz:z=(j:Int)) (h:xs[j]?=some v):atI xs z=some v:=by subst hz;exact oj h
noncomputable def Sq (K:PySem.W.Frag) (H:Hp) (p:Addr) (xs:List V):Prop:=SqL K H p xs\/SqT K H p xs
theorem dF {K:PySem.W.Frag}{H H':Hp}{a:Addr}{xs:List V} (e:ae H H') (h:SqT K H a xs):SqT K H' a xs:=by
 rcases h with (h | ⟨o,h⟩) | h
 ·exact .inl (.inl (e _ _ h))
 ·exact .inl (.inr ⟨o,e _ _ h⟩)
 ·exact .inr h
theorem Sq.same {K:PySem.W.Frag}{H H':Hp}{a:Addr}{xs:List V} (h:Sq K H a xs) (e:ae H H'):Sq K H' a xs:=h.imp (fun z=>e.seq z) fun z=>dF e z
theorem aB {K:PySem.W.Frag}{H:Hp}{p:Addr}{xs:List V}{z:Int}{j:Nat}{v:V}{Q:VK} (h:Sq K H p xs) (hz:z=(j:Int)) (hx:xs[j]?=some v) (q:Q v H):rIx K (.ref p) (.int z) H Q :=
 h.elim (fun h=>.inl ⟨p,xs,z,v,rfl,rfl,h,dQ hz hx,q⟩) fun h=>.inr (.inl ⟨p,xs,z,v,rfl,rfl,h,dQ hz hx,q⟩)
theorem fits {n:Nat} (h:n<=1000):n < sizeLine:=mr h
theorem strAt {ss:List Str}{i:Nat} (h:i < ss.length):(ss.map V.str)[i]?=some (.str ss[i]):=by rw [List.getElem?_map,List.getElem?_eq_getElem h];rfl
theorem eL (x:Str) (ss:List Str):inV (.str x) (ss.map V.str)=decide (x∈ss):=by
 unfold inV
 rw [List.any_map]
 rw [Bool.eq_iff_iff,List.any_eq_true,decide_eq_true_iff]
 constructor
 ·rintro⟨y,hy,e⟩
  have e':y=x:=by simpa [eqV] using e
  exact e' ▸ hy
 ·intro h
  exact⟨x,h,by simp [eqV]⟩
theorem eo (ss:List Str):(ss.map V.str).all bL=true:=by
 rw [List.all_map,List.all_eq_true]
 intro y _
 rfl
noncomputable abbrev Row:=Str×Str×Str
noncomputable def dS (H:Hp) (p:Addr) (r:Row):Prop:=H p=some (.tup [.str r.1,.str r.2.1,.str r.2.2])
noncomputable abbrev aM (rs:List (Addr×Row)):List V:=rs.map fun r=>V.ref r.1
structure cE (H:Hp) (v pa ra:Addr) (ps:List Str) (rs:List (Addr×Row)):Prop where
 tp:H v=some (.tup [.ref pa,.ref ra])
 pl:H pa=some (.tup (ps.map V.str))
 rl:H ra=some (.tup (aM rs))
 rows:∀r∈rs,dS H r.1 r.2
structure Good (ps:List Str) (rs:List Row):Prop where
 ne:ps≠[]
 nm:∀x∈ps,aJ x
 so:ps.Pairwise nlt
 rn:∀r∈rs,aJ r.1/\r.2.1∈ps/\r.2.2∈ps/\r.2.1≠r.2.2
 rso:(rs.map (·.1)).Pairwise nlt
 pz:ps.length<=100
 rz:rs.length<=60
theorem cE.same {H H':Hp}{v pa ra:Addr}{ps:List Str}{rs:List (Addr×Row)} (h:cE H v pa ra ps rs) (e:ae H H'):cE H' v pa ra ps rs :=
 ⟨e _ _ h.tp,e _ _ h.pl,e _ _ h.rl,fun r hr=>e _ _ (h.rows r hr)⟩
section
variable {P:Program}{w:World}{K:PySem.W.Frag}{mg:Str->Option Value}{base:Heap}
noncomputable def fw (K:PySem.W.Frag):Sp:=fun vs H Q _=>∃(p:Addr) (ss:List Str),vs=[.ref p]/\Sq K H p (ss.map V.str)/\ss.Pairwise nlt/\ss.length<=1000/\∀H',ae H H'->Q (.bl true) H'
theorem sc7:aQ ["names"] ["names"] (aF (top 7)):=⟨rfl,rfl,rfl,by decide +kernel,rfl,by decide +kernel,by decide +kernel⟩
theorem kW {f:Addr}{fd:FuncData} (F:Fun K "is_rising" "is_rising" (top 7) f fd) (B:Bl mg):aH P w K mg base CX0 1 f fd ["names"] (fw K):=by
 refine F.ok sc7 (fun vs H Q E h=>?_) (fun cdv A outer s H vs Q E hr h=>?_)
 ·obtain⟨p,ss,rfl,_⟩:=h
  rfl
 ·obtain⟨p,ss,rfl,hq,hp,hz,k⟩:=h
  refine⟨_,aq (aI (aw (ef rfl) rfl B.all eX (aa (bb (N:=["at","names"]) (ix:=[none,some 0]) ⟨rfl,rfl,rfl,by decide⟩ rfl
   (mz rfl B.range (aa af (aa (aw bc rfl B.len PySem.boot_len (aa (pv 0) ab)) ab))) (fun _ _ _ _=>aO 0 (by decide) rfl rfl) (fun _ _ _ _=>a9)
   (fun _ _ _ _=>eE lU (ay (bN K) (pv 1) (av cU (pv 0) af) (fun _ _=>rfl)) (ay (bN K) (pv 1) (pv 0) (fun _ _=>rfl)) (aN _))) ab))),?_⟩
  have hz':(ss.map V.str).length<=1000:=by simpa using hz
  refine⟨_,rfl,p,ss.map V.str,rfl,hq,1,_,rfl,⟨by decide,by decide,by omega,by omega⟩,cv (fits (by omega)) (fun i ys σ H1=>ys=List.replicate i (.bl true)/\ae H H1/\∃v,σ=[v,some (.ref p)])
   ⟨rfl,ae.refl _,_,rfl⟩ (fun i ys σ H1 _ q=>by rw [q.1];simp) ?_ ?_⟩
  ·rintro i ys σ H1 hi ⟨rfl,hs,v,rfl⟩
   have hl:i + 1 < ss.length:=by rw [List.length_map] at hi;omega
   refine⟨_,rfl,_,rfl,_,_,rfl,rfl,aB (j:=i) (hq.same hs) (by omega) (strAt (by omega)) ⟨_,rfl,_,rfl,aB (j:=i + 1) (hq.same hs) (by push_cast;omega) (strAt hl) ⟨_,_,rfl,rfl,?_,hs,_,rfl⟩⟩⟩
   have e:ss[i].cps.toList < ss[i + 1].cps.toList:=List.pairwise_iff_getElem.mp hp i (i + 1) (by omega) hl (by omega)
   show _++[V.bl (decide (ss[i].cps.toList < ss[i + 1].cps.toList))]=_
   rw [decide_eq_true e,List.replicate_succ']
  ·rintro ys σ H1 ⟨rfl,hs,v,rfl⟩ q hqn
   refine⟨q,List.replicate _ true,rfl,SqL.of (by rw [ai,List.map_replicate]),?_⟩
   have e:∀n:Nat,(List.replicate n true).all id=true:=by simp
   rw [e]
   exact k _ (ao hs hqn)
noncomputable def iz:Sp:=fun vs H Q _=>∃(p:Addr) (ss:List Str),vs=[.ref p]/\H p=some (.tup (ss.map V.str))/\(∀x∈ss,aJ x)/\ss.Pairwise nlt/\ss.length<=1000/\∀H',ae H H'->Q (.bl true) H'
theorem sc8:aQ ["thing"] ["thing"] (aF (top 8)):=⟨rfl,rfl,rfl,by decide +kernel,rfl,by decide +kernel,by decide +kernel⟩
theorem k8 {f:Addr}{fd:FuncData} (F:Fun K "is_sorted_names" "is_sorted_names" (top 8) f fd) (B:Bl mg) (F1:Fn P w K mg base 1 "is_name" ["thing"] fS) (F2:Fn P w K mg base 1 "is_rising" ["names"] (fw K)) :
  aH P w K mg base CX0 2 f fd ["thing"] iz:=by
 refine F.ok sc8 (fun vs H Q E h=>?_) (fun cdv A outer s H vs Q E hr h=>?_)
 ·obtain⟨p,ss,rfl,_⟩:=h
  rfl
 ·obtain⟨p,ss,rfl,hp,hn,hs,hz,k⟩:=h
  refine⟨_,ak (aV (bI (bJ (aw (cu (T:="tuple")) rfl B.isinstance cq (aa (pv 0) (aa (cw (v:=.ty "tuple") rfl B.tuple bB rfl) ab))))) (aq (aI du)) aS)
   (aq (aI (dn (aw (ef rfl) rfl B.all eX (aa (bb (N:=["name"]) (ix:=[none]) ⟨rfl,rfl,rfl,by decide⟩ rfl (cb (pv 0)) (fun _ _ _ _=>aO 0 (by decide) rfl rfl) (fun _ _ _ _=>a9)
    (fun _ _ _ _=>ar F1 hr (aa (pv 0) ab))) ab)) (eT (ar F2 hr (aa (pv 0) ab)))))),?_⟩
  refine⟨_,rfl,_,_,true,rfl,.tup hp,rfl,true,rfl,bq ?_⟩
  refine⟨_,rfl,p,rfl,⟨_,SqT.of hp⟩,fB (xs:=ss.map V.str) (fits (by simpa using hz)) (fun i ys σ H1=>ys=List.replicate i (.bl true)/\ae H H1/\∃v,σ=[v]) ⟨rfl,ae.refl _,_,rfl⟩
   (fun i ys σ H1 _ q=>⟨by rw [q.1];simp,dF q.2.1 (SqT.of hp)⟩) ?_ ?_⟩
  ·rintro i x ys σ H1 hx ⟨rfl,hs1,v,rfl⟩
   obtain⟨y,hy,rfl⟩:∃y∈ss,x=V.str y:=by
    obtain⟨y,e1,e2⟩:=List.mem_map.mp (List.mem_of_getElem? hx)
    exact⟨y,e1,e2.symm⟩
   exact⟨_,rfl,y,rfl,hn y hy,fun H2 hs2=>⟨by rw [List.replicate_succ'],hs1.trans hs2,_,rfl⟩⟩
  ·rintro ys σ H1 ⟨rfl,hs1,v,rfl⟩ q hqn
   refine⟨q,List.replicate _ true,rfl,SqL.of (by rw [ai,List.map_replicate]),_,rfl,?_⟩
   have e:∀n:Nat,(List.replicate n true).all id=true:=by simp
   rw [e]
   have hs2:=ao (o:=.lst (List.replicate (ss.map V.str).length (.bl true))) hs1 hqn
   exact bP ⟨_,rfl,p,ss,rfl,.inr (dF hs2 (SqT.of hp)),hs,hz,fun H3 hs3=>k _ (hs2.trans hs3)⟩
noncomputable def fD (K:PySem.W.Frag):Sp:=fun vs H Q _=>∃(x:Str) (p:Addr) (ss:List Str),vs=[.str x,.ref p]/\Sq K H p (ss.map V.str)/\Q (.bl (decide (x∈ss))) H
theorem sc9:aQ ["thing","names"] ["thing","names"] (aF (top 9)):=⟨rfl,rfl,rfl,by decide +kernel,rfl,by decide +kernel,by decide +kernel⟩
theorem lj {f:Addr}{fd:FuncData} (F:Fun K "is_among" "is_among" (top 9) f fd) (B:Bl mg):aH P w K mg base CX0 1 f fd ["thing","names"] (fD K):=by
 refine F.ok sc9 (fun vs H Q E h=>?_) (fun cdv A outer s H vs Q E hr h=>?_)
 ·obtain⟨x,p,ss,rfl,_⟩:=h
  rfl
 ·obtain⟨x,p,ss,rfl,hp,k⟩:=h
  refine⟨_,aq (aI (dn (aw (cu (T:="str")) rfl B.isinstance cq (aa (pv 0) (aa (cw (v:=.ty "str") rfl B.str j8 rfl) ab)))
   (eT (eE fq (pv 0) (pv 1) (by with_unfolding_all rfl))))),?_⟩
  refine⟨_,rfl,_,_,true,rfl,.str x,rfl,true,rfl,bP ⟨_,rfl,_,rfl,p,ss.map V.str,rfl,hp,rfl,eo ss,?_⟩⟩
  show Q (.bl (inV (.str x) (ss.map V.str))) H
  rw [eL]
  exact k
noncomputable def iw:Sp:=fun vs H Q _=>∃(p q:Addr) (r:Row) (ps:List Str),vs=[.ref p,.ref q]/\dS H p r/\H q=some (.tup (ps.map V.str))/\aJ r.1/\r.2.1∈ps/\r.2.2∈ps/\r.2.1≠r.2.2/\∀H',ae H H'->Q (.bl true) H'
theorem fb:aQ ["thing","places","name","start","end"] ["thing","places"] (aF (top 10)):=⟨rfl,rfl,rfl,by decide +kernel,rfl,by decide +kernel,by decide +kernel⟩
theorem kQ {f:Addr}{fd:FuncData} (F:Fun K "is_tie_row" "is_tie_row" (top 10) f fd) (B:Bl mg) (F1:Fn P w K mg base 1 "is_name" ["thing"] fS) (F2:Fn P w K mg base 1 "is_among" ["thing","names"] (fD K)) :
  aH P w K mg base CX0 2 f fd ["thing","places"] iw:=by
 refine F.ok fb (fun vs H Q E h=>?_) (fun cdv A outer s H vs Q E hr h=>?_)
 ·obtain⟨p,q,r,ps,rfl,_⟩:=h
  rfl
 ·obtain⟨p,q,r,ps,rfl,hp,hq,h1,h2,h3,h4,k⟩:=h
  have hp':H p=some (.tup [.str r.1,.str r.2.1,.str r.2.2]):=hp
  refine⟨_,ak (aV (PW.pt (bW (bI (bJ (aw (cu (T:="tuple")) rfl B.isinstance cq (aa (pv 0) (aa (cw (v:=.ty "tuple") rfl B.tuple bB rfl) ab)))))
    (cA (aL bv (aw bc rfl B.len PySem.boot_len (aa (pv 0) ab)) af (aN _))))) (aq (aI du)) aS)
   (ak (cf (pv 0) (cB rfl (n:=3) (aR (aZ (i:=2) fb.nd rfl (Or.inl rfl)) (aR (aZ (i:=3) fb.nd rfl (Or.inl rfl)) (aR (aZ (i:=4) fb.nd rfl (Or.inl rfl)) bH)))))
   (aq (aI (dn (ar F1 hr (aa (pv 2) ab)) (dn (ar F2 hr (aa (pv 3) (aa (pv 1) ab))) (dn (ar F2 hr (aa (pv 4) (aa (pv 1) ab))) (eT (eE bv (pv 3) (pv 4) (aN _))))))))),?_⟩
  refine⟨_,rfl,_,_,true,rfl,.tup hp',rfl,true,rfl,bq ⟨_,rfl,p,_,rfl,.inr (SqT.of hp'),rfl,_,rfl,eZ rfl ?_⟩⟩
  refine⟨_,rfl,p,_,rfl,SqT.of hp',rfl,_,_,rfl,_,_,rfl,_,_,rfl,rfl,?_⟩
  refine⟨_,rfl,r.1,rfl,h1,fun H1 s1=>⟨true,rfl,bP ⟨_,rfl,_,rfl,r.2.1,q,ps,rfl,.inr (dF s1 (SqT.of hq)),_,rfl,gk h2 ⟨_,rfl,_,rfl,r.2.2,q,ps,rfl,.inr (dF s1 (SqT.of hq)),_,rfl,gk h3 ⟨_,rfl,_,rfl,rfl,?_⟩⟩⟩⟩⟩
  have e:(!decide (V.str r.2.1=V.str r.2.2))=true:=by
   rw [decide_eq_false (fun z=>h4 (V.str.inj z))];rfl
  rw [e]
  exact k H1 s1
end
theorem kT {α β:Type} (f:α->β) (l:List α) (i:Nat) (x:α) (h:l[i]?=some x):(l.take (i + 1)).map f=(l.take i).map f++[f x]:=by
 rw [List.take_add_one,h];simp
theorem eh {rs:List (Addr×Row)}{i:Nat}{x:V} (h:(aM rs)[i]?=some x):∃r,rs[i]?=some r/\x=.ref r.1:=by
 unfold aM at h
 rw [List.getElem?_map] at h
 cases e:rs[i]? with
 | none=>rw [e] at h;cases h
 | some r=>rw [e] at h;exact⟨r,rfl,(Option.some.inj h).symm⟩
section
variable {P:Program}{w:World}{K:PySem.W.Frag}{mg:Str->Option Value}{base:Heap}
noncomputable def eW (r:V):Sp:=fun vs H Q _=>∃(v pa ra:Addr) (ps:List Str) (rs:List (Addr×Row)),vs=[.ref v]/\cE H v pa ra ps rs/\Good ps (rs.map (·.2))/\∀H',ae H H'->Q r H'
theorem gs:aQ ["thing","places","rows"] ["thing"] (aF (top 11)):=⟨rfl,rfl,rfl,by decide +kernel,rfl,by decide +kernel,by decide +kernel⟩
theorem mf {f:Addr}{fd:FuncData} (F:Fun K "is_web" "is_web" (top 11) f fd) (B:Bl mg) (F1:Fn P w K mg base 2 "is_sorted_names" ["thing"] iz) (F2:Fn P w K mg base 2 "is_tie_row" ["thing","places"] iw)
  (F3:Fn P w K mg base 1 "is_rising" ["names"] (fw K)):aH P w K mg base CX0 3 f fd ["thing"] (eW (.bl true)):=by
 refine F.ok gs (fun vs H Q E h=>?_) (fun cdv A outer s H vs Q E hr h=>?_)
 ·obtain⟨v,pa,ra,ps,rs,rfl,_⟩:=h
  rfl
 ·obtain⟨v,pa,ra,ps,rs,rfl,W,G,k⟩:=h
  have hr1:aK 1 _:=hr.mono (by decide)
  refine⟨_,ak (aV (PW.pt (bW (bI (bJ (aw (cu (T:="tuple")) rfl B.isinstance cq (aa (pv 0) (aa (cw (v:=.ty "tuple") rfl B.tuple bB rfl) ab)))))
    (cA (aL bv (aw bc rfl B.len PySem.boot_len (aa (pv 0) ab)) af (aN _))))) (aq (aI du)) aS)
   (ak (cf (pv 0) (cB rfl (n:=2) (aR (aZ (i:=1) gs.nd rfl (Or.inr rfl)) (aR (aZ (i:=2) gs.nd rfl (Or.inl rfl)) bH))))
   (ak (aV (PW.pt (bW (bI (bJ (ar F1 hr (aa (pv 1) ab)))) (bW (aL cZ (aw bc rfl B.len PySem.boot_len (aa (pv 1) ab)) af (aN _))
    (cA (bI (bJ (aw (cu (T:="tuple")) rfl B.isinstance cq (aa (pv 2) (aa (cw (v:=.ty "tuple") rfl B.tuple bB rfl) ab))))))))) (aq (aI du)) aS)
   (aq (aI (dn (aw (ef rfl) rfl B.all eX (aa (bb (N:=["row","places"]) (ix:=[none,some 1]) ⟨rfl,rfl,rfl,by decide⟩ rfl (cb (pv 2)) (fun _ _ _ _=>aO 0 (by decide) rfl rfl) (fun _ _ _ _=>a9)
    (fun _ _ _ _=>ar F2 hr (aa (pv 0) (aa (pv 1) ab)))) ab))
    (eT (ar F3 hr1 (aa (bb (N:=["row"]) (ix:=[none]) ⟨rfl,rfl,rfl,by decide⟩ rfl (cb (pv 2)) (fun _ _ _ _=>aO 0 (by decide) rfl rfl) (fun _ _ _ _=>a9)
     (fun _ _ _ _=>ay (bN K) (pv 0) af (fun _ _=>rfl))) ab)))))))),?_⟩
  have hlen:(aM rs).length<=1000:=by have:=G.rz;simp at this ⊢;omega
  refine⟨_,rfl,_,_,true,rfl,.tup W.tp,rfl,true,rfl,bq ⟨_,rfl,v,_,rfl,.inr (SqT.of W.tp),rfl,_,rfl,eZ rfl ?_⟩⟩
  refine⟨_,rfl,v,_,rfl,SqT.of W.tp,rfl,_,_,rfl,_,_,rfl,rfl,?_⟩
  refine⟨_,rfl,pa,ps,rfl,W.pl,G.nm,G.so,by have:=G.pz;omega,fun H1 s1=>⟨true,rfl,bq ?_⟩⟩
  refine⟨_,rfl,pa,_,rfl,.inr (SqT.of (s1 _ _ W.pl)),rfl,_,rfl,qJ ?_ ?_⟩
  ·intro z
   have z':((ps.map V.str).length:Int)=0:=V.int.inj z
   have:ps.length≠0:=fun q=>G.ne (List.length_eq_zero_iff.mp q)
   rw [List.length_map] at z'
   omega
  refine⟨_,rfl,_,_,true,rfl,.tup (s1 _ _ W.rl),rfl,true,rfl,bq ?_⟩
  refine⟨_,rfl,ra,rfl,⟨_,SqT.of (s1 _ _ W.rl)⟩,fB (xs:=aM rs) (fits hlen) (fun i ys σ H2=>ys=List.replicate i (.bl true)/\ae H H2/\∃x,σ=[x,some (.ref pa)]) ⟨rfl,s1,_,rfl⟩
   (fun i ys σ H2 _ q=>⟨by rw [q.1];simp,SqT.of (q.2.1 _ _ W.rl)⟩) ?_ ?_⟩
  ·rintro i x ys σ H2 hx ⟨rfl,s2,y,rfl⟩
   obtain⟨r,hr',rfl⟩:=eh hx
   have hm:=List.mem_of_getElem? hr'
   obtain⟨g1,g2,g3,g4⟩:=G.rn r.2 (List.mem_map_of_mem hm)
   exact⟨_,rfl,_,rfl,r.1,pa,r.2,ps,rfl,s2 _ _ (W.rows r hm),s2 _ _ W.pl,g1,g2,g3,g4,fun H3 s3=>⟨by rw [List.replicate_succ'],s2.trans s3,_,rfl⟩⟩
  ·rintro ys σ H2 ⟨rfl,s2,y,rfl⟩ q hqn
   have s3:=ao (o:=.lst (List.replicate (aM rs).length (.bl true))) s2 hqn
   refine⟨q,List.replicate _ true,rfl,SqL.of (by rw [ai,List.map_replicate]),_,rfl,?_⟩
   have e:∀n:Nat,(List.replicate n true).all id=true:=by simp
   rw [e]
   refine bP ⟨_,rfl,ra,rfl,⟨_,SqT.of (s3 _ _ W.rl)⟩,fB (xs:=aM rs) (fits hlen) (fun i ys σ H4=>ys=((rs.take i).map fun r=>V.str r.2.1)/\ae H H4/\∃x,σ=[x]) ⟨rfl,s3,_,rfl⟩
    (fun i ys σ H4 _ q=>⟨by rw [q.1];simp;omega,SqT.of (q.2.1 _ _ W.rl)⟩) ?_ ?_⟩
   ·rintro i x ys σ H4 hx ⟨rfl,s4,z,rfl⟩
    obtain⟨r,hr',rfl⟩:=eh hx
    have hm:=List.mem_of_getElem? hr'
    exact⟨_,rfl,aB (j:=0) (.inr (SqT.of (s4 _ _ (W.rows r hm)))) rfl rfl ⟨(kT _ _ _ _ hr').symm,s4,_,rfl⟩⟩
   ·rintro ys σ H4 ⟨rfl,s4,z,rfl⟩ q2 hq2
    refine⟨q2,rs.map (·.2.1),rfl,.inl (SqL.of (by rw [ai];simp)),?_,by simpa using hlen,fun H5 s5=>k _ ((ao s4 hq2).trans s5)⟩
    have:=G.rso
    rw [List.map_map] at this
    exact this
end
theorem dC {α:Type} (p:α->Bool) (l:List α) (i:Nat) (x:α) (h:l[i]?=some x):(l.take (i + 1)).filter p=(l.take i).filter p++(if p x then [x] else []):=by
 rw [List.take_add_one,h,List.filter_append]
 simp only [Option.toList_some,List.filter_cons,List.filter_nil]
theorem take_all {α:Type} (l:List α) {n:Nat} (h:n=l.length):l.take n=l:=by subst h;exact List.take_length
noncomputable abbrev nms (rs:List (Addr×Row)):List Str:=rs.map (·.2.1)
theorem fg (K:PySem.W.Frag) {X:Cx} (h:X.K=K:=by rfl):bj X (.type "tuple") (fun xs H Q=>∃p ys,xs=[.ref p]/\((SqL K H p ys/\∀l,H l=none->Q (.ref l) (upd H l (.tup ys)))\/(SqT K H p ys/\Q (.ref p) H))):=by subst h;exact cJ
theorem gY {α β:Type} (f:α->β):∀(l':List β) (l:List α),l'.Perm (l.map f)->∃l'':List α,l''.Perm l/\l''.map f=l'
 | [],l,h=>by
  have:l=[]:=by simpa using h.length_eq.symm
  subst this
  exact⟨[],.refl _,rfl⟩
 | b::t,l,h=>by
  obtain⟨a,ha,rfl⟩:=List.mem_map.mp (h.mem_iff.mp List.mem_cons_self)
  obtain⟨u,v,rfl⟩:=List.append_of_mem ha
  have h2:(f a::t).Perm (f a::(u++v).map f):=by
   refine h.trans ?_
   rw [List.map_append,List.map_cons,List.map_append]
   exact List.perm_middle
  obtain⟨w,hw,e⟩:=gY f t (u++v) h2.cons_inv
  exact⟨a::w,(hw.cons a).trans List.perm_middle.symm,by rw [List.map_cons,e]⟩
structure sr (ps ls:List Str):Prop where
 ne:ls≠[]
 nm:∀x∈ls,aJ x
 so:ls.Pairwise nlt
 sub:∀x∈ls,x∈ps
 z:ls.length<=100
theorem iE {ss:List Str} (h:ss.Pairwise nlt):ss.Nodup:=h.imp fun {a b} hab e=>by
 subst e;exact absurd hab (List.lt_irrefl _)
theorem iT (rs:List (Addr×Row)):refs (rs.map fun r=>(r.1,r.2.1))=aM rs:=by
 unfold refs aM
 rw [List.map_map]
 rfl
theorem dI (K:PySem.W.Frag) {X:Cx}{es:List Expr}{k:Nat}{t:TGs}{n:Nat}{pos:Pos} (hc:X.calm=true) (h:PGs X es t) (hK:X.K=K:=by rfl) (hn:(assignEach es X.env).length=n:=by rfl) (hst:(assignEach es X.env).findIdx? (·.1)=none:=by rfl) :
  PG X (.Tuple es k pos) (kK K n t):=by subst hK;exact cB hc h hn hst
section
variable {P:Program}{w:World}{K:PySem.W.Frag}{mg:Str->Option Value}{base:Heap}
theorem qW:aQ ["thing"] ["thing"] (aF (top 12)):=⟨rfl,rfl,rfl,by decide +kernel,rfl,by decide +kernel,by decide +kernel⟩
theorem ll {f:Addr}{fd:FuncData} (F:Fun K "need_web" "need_web" (top 12) f fd) (F1:Fn P w K mg base 3 "is_web" ["thing"] (eW (.bl true))):aH P w K mg base CX0 4 f fd ["thing"] (eW .non):=by
 refine F.ok qW (fun vs H Q E h=>?_) (fun cdv A outer s H vs Q E hr h=>?_)
 ·obtain⟨v,pa,ra,ps,rs,rfl,_⟩:=h
  rfl
 ·obtain⟨v,pa,ra,ps,rs,rfl,W,G,k⟩:=h
  refine⟨_,aq (aV (bI (bJ (ar F1 hr (aa (pv 0) ab)))) c9 aS),?_⟩
  exact⟨_,rfl,v,pa,ra,ps,rs,rfl,W,G,fun H1 s1=>⟨true,rfl,bq (k H1 s1)⟩⟩
noncomputable def gF:Sp:=fun vs H Q _=>∃(v pa ra:Addr) (ps:List Str) (rs:List (Addr×Row)) (x:Str),vs=[.ref v,.str x]/\cE H v pa ra ps rs/\x∈ps/\Q .non H
theorem rG:aQ ["web","thing"] ["web","thing"] (aF (top 13)):=⟨rfl,rfl,rfl,by decide +kernel,rfl,by decide +kernel,by decide +kernel⟩
theorem kP {f:Addr}{fd:FuncData} (F:Fun K "need_place" "need_place" (top 13) f fd) (F1:Fn P w K mg base 1 "is_among" ["thing","names"] (fD K)):aH P w K mg base CX0 2 f fd ["web","thing"] gF:=by
 refine F.ok rG (fun vs H Q E h=>?_) (fun cdv A outer s H vs Q E hr h=>?_)
 ·obtain⟨v,pa,ra,ps,rs,x,rfl,_⟩:=h
  rfl
 ·obtain⟨v,pa,ra,ps,rs,x,rfl,W,hx,k⟩:=h
  refine⟨_,aq (aV (bI (bJ (ar F1 hr (aa (pv 1) (aa (ay aG (pv 0) af (fun _ _=>rfl)) ab))))) c9 aS),?_⟩
  exact⟨_,rfl,_,rfl,aB (j:=0) (.inr (SqT.of W.tp)) rfl rfl ⟨x,pa,ps,rfl,.inr (SqT.of W.pl),_,rfl,eZ hx k⟩⟩
end
noncomputable def Pot (H:Hp) (p:Addr):Prop:=∃a b,H p=some (.lst [.int a,.int b])/\0<=b/\b < 4294967296
noncomputable def Kp (P:List Addr) (H H':Hp):Prop:=∀b o,H b=some o->b∉P->H' b=some o
theorem Kp.refl (P:List Addr) (H:Hp):Kp P H H:=fun _ _ h _=>h
theorem Kp.trans {P:List Addr}{H H1 H2:Hp} (a:Kp P H H1) (b:Kp P H1 H2):Kp P H H2:=fun c o h n=>b c o (a c o h n) n
theorem Kp.of_same {P:List Addr}{H H1 H2:Hp} (a:Kp P H H1) (b:ae H1 H2):Kp P H H2:=fun c o h n=>b c o (a c o h n)
theorem Kp.inn {P:List Addr}{H H1:Hp}{p:Addr}{o:HO} (a:Kp P H H1) (hp:p∈P):Kp P H (upd H1 p o):=fun c ob h n=>by rw [ag (show c≠p from fun z=>n (by rw [z];exact hp))];exact a c ob h n
theorem Kp.new {P:List Addr}{H H1:Hp}{p:Addr}{o:HO} (a:Kp P H H1) (hp:H1 p=none):Kp P H (upd H1 p o):=fun c ob h n=>by rw [ag (ax (a c ob h n) hp)];exact a c ob h n
noncomputable def cM:Str:=Str.ofString "abcdefghijklmnopqrstuvwxyz"
theorem k9:∀r:_root_.Fin 26,cM.cps.toList[r.val]?=some (97 + r.val):=by decide +kernel
theorem gL {r:Nat} (h:r < 26):cM.cps.toList[r]?=some (97 + r):=k9 ⟨r,h⟩
theorem gA:cM.length<=sizeLine:=by decide
theorem join_one (cs:List Nat):(Txt.join (Str.ofString "") (cs.map fun c=>(⟨#[c]⟩:Str))).cps.toList=cs:=by
 have e0:(Str.ofString "").cps=#[]:=by decide
 show (Builtin.Str.glued (Str.ofString "") _).cps.toList=cs
 rw [StrLaws.glued_eq_join]
 induction cs with
 | nil=>rfl
 | cons c t ih =>
  cases t with
  | nil=>rfl
  | cons d r =>
   show (((⟨#[c]⟩:Str)++Str.ofString ""++Str.join (Str.ofString "") ((d::r).map fun c=>(⟨#[c]⟩:Str))).cps).toList=_
   rw [Str.cps_append,Str.cps_append,e0,Array.toList_append,Array.toList_append,ih]
   rfl
theorem aJ.of_codes {x:Str}{l:List Nat} (e:x.cps.toList=l) (h1:1<=l.length) (h8:l.length<=8) (h:∀c∈l,97<=c/\c<=122):aJ x:=by
 have hl:x.length=l.length:=by rw [<- e];simp [Str.length]
 exact⟨by omega,by omega,by rw [e];exact h⟩
theorem jo {H:Hp}{p t:Addr}{ss:List Str} (h1:Pot H p) (h2:H t=some (.lst (ss.map V.str))):t≠p:=by
 rintro rfl
 obtain⟨a,b,e,_⟩:=h1
 rw [e] at h2
 have h3:=HO.lst.inj (Option.some.inj h2)
 cases ss with
 | nil=>cases h3
 | cons x r=>rw [List.map_cons] at h3;cases List.cons.inj h3 |>.1
theorem h9:∀(r:List Str) (x:Str),PyProof.Rows.risingS x r=true->(x::r).Nodup->(x::r).Pairwise nlt
 | [],x,_,_=>by simp
 | y::r,x,h,hn=>by
  have h':(!PySem.Spec.ltCps y.cps.toList x.cps.toList && PyProof.Rows.risingS y r)=true:=h
  rw [Bool.and_eq_true,PyProof.Rows.ltCps_eq] at h'
  have hn':=List.nodup_cons.mp hn
  have ih:=h9 r y h'.2 hn'.2
  have hxy:nlt x y:=by
   rcases iX (fun e=>hn'.1 (e ▸ List.mem_cons_self):x≠y) with z | z
   ·exact z
   ·rw [decide_eq_true z] at h'
    exact absurd h'.1 (by simp)
  refine List.pairwise_cons.mpr ⟨fun z hz=>?_,ih⟩
  rcases List.mem_cons.mp hz with rfl | hz
  ·exact hxy
  ·exact List.lt_trans hxy ((List.pairwise_cons.mp ih).1 z hz)
theorem lS {ss:List Str} (h:PyProof.Rows.sortedS ss=true) (hn:ss.Nodup):ss.Pairwise nlt:=by
 cases ss with
 | nil=>exact .nil
 | cons x r=>exact h9 r x h hn
theorem Kp.free {P:List Addr}{H H':Hp} (k:Kp P H H') (hP:∀b∈P,∃o,H' b=some o) {q:Addr} (hq:H' q=none):H q=none:=by
 cases e:H q with
 | none=>rfl
 | some o =>
  by_cases hm:q∈P
  ·obtain⟨o',e'⟩:=hP q hm
   rw [hq] at e';cases e'
  ·rw [k q o e hm] at hq;cases hq
theorem Pot.some {H:Hp}{p:Addr} (h:Pot H p):∃o,H p=some o:=let ⟨a,b,e,_⟩:=h;⟨_,e⟩
theorem Pot.keep {H H':Hp}{p:Addr} (h:Pot H p) (e:∀o,H p=Option.some o->H' p=Option.some o):Pot H' p:=let ⟨a,b,q,r⟩:=h;⟨a,b,e _ q,r⟩
theorem tup_ne {H:Hp}{a b:Addr}{xs ys:List V} (h1:H a=some (.tup xs)) (h2:H b=some (.lst ys)):a≠b:=fU h1 h2 (by intro z;cases z)
theorem pK {H H':Hp}{P:List Addr}{b:Addr}{xs:List V} (k:Kp P H H') (hP:∀c∈P,∃ys,H c=some (.lst ys)) (e:H b=some (.tup xs)):H' b=some (.tup xs) :=
 k b _ e fun hb=>by
  obtain⟨ys,e'⟩:=hP b hb
  exact tup_ne e e' rfl
theorem Pot.lst {H:Hp}{p:Addr} (h:Pot H p):∃ys,H p=Option.some (HO.lst ys):=let ⟨a,b,e,_⟩:=h;⟨_,e⟩
theorem mK {x:Str} (h:aJ x):PyData.strOk x=true:=by
 unfold PyData.strOk
 rw [Array.all_eq_true']
 intro c hc
 have:=h.az c (by simpa using hc)
 simp;omega
theorem nv {ss:List Str} (h:∀x∈ss,aJ x):PyData.canLayAll0 (ss.map PyData.str)=true/\PyData.depthAll (ss.map PyData.str)=0:=by
 induction ss with
 | nil=>exact⟨rfl,rfl⟩
 | cons x t ih =>
  have:=ih fun y hy=>h y (List.mem_cons_of_mem _ hy)
  rw [List.map_cons]
  simp only [PyData.canLayAll0,PyData.canLay0,PyData.depthAll,PyData.depth,mK (h x List.mem_cons_self),this.1,this.2]
  exact⟨rfl,rfl⟩
theorem gC {ss:List Str} (h:∀x∈ss,aJ x):SeqAt.shaped (.list (ss.map PyData.str))=true/\SeqAt.shaped (.tuple (ss.map PyData.str))=true:=by
 have q:=nv h
 unfold SeqAt.shaped
 simp only [PyData.canLay0,PyData.depth,q.1,q.2]
 exact⟨by decide,by decide⟩
theorem gH:∀(a b:List Str),PyData.eqvAll (a.map PyData.str) (b.map PyData.str)=decide (a=b)
 | [],[]=>by simp [PyData.eqvAll]
 | [],y::t=>by simp [PyData.eqvAll]
 | x::s,[]=>by simp [PyData.eqvAll]
 | x::s,y::t=>by
  simp only [List.map_cons,PyData.eqvAll,PyData.eqv,gH s t]
  rw [Bool.eq_iff_iff]
  simp
theorem Pot.ne_new {H:Hp}{p q:Addr} (h:Pot H p) (hq:H q=none):q≠p:=fun z=>by obtain⟨o,e⟩:=h.some;rw [<- z,hq] at e;cases e
theorem Pot.upd {H:Hp}{p q:Addr}{o:HO} (h:Pot H p) (hq:q≠p):Pot (upd H q o) p:=h.keep fun ob e=>by rw [ag hq.symm];exact e
theorem Pot.new {H:Hp}{p q:Addr}{o:HO} (h:Pot H p) (hq:H q=none):Pot (L2.upd H q o) p:=h.upd (h.ne_new hq)
theorem Kp.free1 {p q:Addr}{H H1:Hp} (k:Kp [p] H H1) (hp:Pot H1 p) (hq:H1 q=none):H q=none:=k.free (fun b hb=>by
 have e:b=p:=by simpa using hb
 subst e;exact hp.some) hq
theorem Kp.tup {p b:Addr}{H H1:Hp}{xs:List V} (k:Kp [p] H H1) (hp:Pot H p) (e:H b=some (.tup xs)):H1 b=some (.tup xs):=pK k (fun c hc=>by
 have e:c=p:=by simpa using hc
 subst e;exact hp.lst) e
theorem Kp.at {p b:Addr}{H H1:Hp}{o:HO} (k:Kp [p] H H1) (hb:b≠p) (e:H b=some o):H1 b=some o:=k _ _ e (by simpa using hb)
section
variable {P:Program}{w:World}{K:PySem.W.Frag}{mg:Str->Option Value}{base:Heap}
end
theorem ae.upd0 {H H':Hp}{q:Addr}{o:HO} (h:ae H H') (hq:H q=none):ae H (upd H' q o):=fun b ob e=>by
 rw [ag (ax e hq)];exact h b ob e
theorem lt0 {k:Nat}{A:Around} (r:aK k A):A.units < cLine:=by have:=r.un;omega
theorem cH {k:Nat}{A:Around} (r:aK k A):A.units + 1 < cLine:=by have:=r.un;omega
theorem jV:bootBuiltins "abs"=some (.builtin "abs"):=by decide +kernel
theorem gb {c:TT}{x y b:TS}{D:Ends}{σ:St}{H:Hp} (M:St->Hp->Prop) (h:∀N:St->Hp->Prop,(∀σ H,M σ H->N σ H)->gn c x y { D with nx:=N } σ H) (k:∀σ H,M σ H->b D σ H):e9 (gn c x y) b D σ H:=h (b D) k
section
variable {P:Program}{w:World}{K:PySem.W.Frag}{mg:Str->Option Value}{base:Heap}
noncomputable def j6 (K:PySem.W.Frag):Sp:=fun vs H Q _=>∃(a:Addr) (ns:List Int) (k:Int),vs=[.ref a,.int k]/\SqL K H a (ns.map V.int)/\0<=k/\k < 1000/\∀q H',ae H H'->H q=none->Pot H' q->Q (.ref q) H'
noncomputable abbrev N20:List Str:=["_law_script","_law_k","_law_cell"]
theorem gx:aQ N20 ["_law_script","_law_k"] (aF (top 20)):=⟨rfl,rfl,rfl,by decide +kernel,rfl,by decide +kernel,by decide +kernel⟩
theorem oZ {f:Addr}{fd:FuncData} (F:Fun K "_law_pot" "_law_pot" (top 20) f fd) (B:Bl mg):aH P w K mg base CX0 1 f fd ["_law_script","_law_k"] (j6 K):=by
 refine F.ok gx (fun vs H Q E h=>?_) (fun cdv A outer s H vs Q E hr h=>?_)
 ·obtain⟨a,ns,k,rfl,_⟩:=h
  rfl
 ·obtain⟨a,ns,k,rfl,ha,hk,hk2,q⟩:=h
  refine⟨_,ak (au (i:=2) gx.nd rfl (Or.inl rfl) af) (ak (aV (aL qq (pv 1) (aw bc rfl B.len PySem.boot_len (aa (pv 0) ab)) (aN _)) (aq (au (i:=2) gx.nd rfl (Or.inl rfl) (ay aG (pv 0) (pv 1) (fun _ _=>rfl)))) aS)
   (aq (aI (bV (aa (aw (gU rfl) rfl B.max j9 (aa af (aa (av cU (aw ip rfl B.abs jV (aa (pv 2) ab)) (av jB af af)) ab)))
    (aa (av bK (av bK (av cW (aw ip rfl B.abs jV (aa (pv 2) ab)) af) (av cT af (pv 1))) af) ab)))))),?_⟩
  dsimp only [e9,gi,tC,bC]
  refine gb (fun σ H1=>H1=H/\∃c:Int,σ=[some (.ref a),some (.int k),some (.int c)]) (fun N key=>?_) ?_
  ·refine⟨_,rfl,_,rfl,a,_,rfl,.inl ha,_,_,rfl,rfl,_,rfl,?_⟩
   refine aX (fun c=>?_) (fun c=>key _ _ ⟨rfl,_,rfl⟩)
   have c':k < ((ns.map V.int).length:Int):=of_decide_eq_true c
   rw [List.length_map] at c'
   have hl:k.toNat < ns.length:=by omega
   exact⟨_,rfl,_,rfl,aB (j:=k.toNat) (v:=.int ns[k.toNat]) (.inl ha) (by omega) (by rw [List.getElem?_map,List.getElem?_eq_getElem hl];rfl) (key _ _ ⟨rfl,_,rfl⟩)⟩
  ·rintro σ H1 ⟨rfl,c,rfl⟩
   refine⟨_,rfl,_,rfl,_,_,rfl,rfl,⟨by decide,by decide,by decide⟩,_,_,rfl,rfl,_,_,rfl,?_⟩
   refine⟨_,rfl,_,rfl,_,_,rfl,rfl,by show (0:Int) < 2147483587;decide,_,rfl,_,_,rfl,rfl,.inl ⟨by decide,by decide⟩,_,_,rfl,rfl,_,_,rfl,rfl,by show 2<=sizeLine;decide,fun l hl=>?_⟩
   have m0:=Int.emod_nonneg (if c < 0 then -c else c) (show (2147483587:Int)≠0 by decide)
   have m1:=Int.emod_lt_of_pos (if c < 0 then -c else c) (show (0:Int) < 2147483587 by decide)
   exact q l _ (ao (ae.refl _) hl) hl ⟨_,_,ai,by omega,by omega⟩
theorem m7 {X:Cx}:OpR X (binaryOp .FloorDiv) (rI (fun _ j=>0 < j/\j < 2 * 10 ^ 30) fun i j=>.int (i / j)):=opI fun i j _ _ _ _ _ hc q=>by
 have h1:(0:Int) < j:=hc.1
 have h2:j < 2 * 10 ^ 30:=hc.2
 have h3:j.natAbs < 2 ^ 9000:=Nat.lt_of_lt_of_le (show j.natAbs < 2 ^ 101 by omega) (Nat.pow_le_pow_right (by decide) (by decide))
 exact PyProof.Rows.floordiv_int (by omega) (by rw [Int.fdiv_eq_ediv_of_nonneg i (by omega)];exact q) (.inl (PyProof.noPylong_of_log2 (by
  have h0:j.natAbs≠0:=by omega
  exact (Nat.log2_lt h0).mpr h3)))
noncomputable def cz:Sp:=fun vs H Q _=>∃(p:Addr) (n:Int),vs=[.ref p,.int n]/\Pot H p/\0 < n/\n < 2 * 10 ^ 30/\∀r H',0<=r->r < n->Pot H' p->Kp [p] H H'->Q (.int r) H'
noncomputable abbrev N21:List Str:=["_law_pot_here","_law_many","_law_digit_here"]
theorem kj:aQ N21 ["_law_pot_here","_law_many"] (aF (top 21)):=⟨rfl,rfl,rfl,by decide +kernel,rfl,by decide +kernel,by decide +kernel⟩
theorem nD {f:Addr}{fd:FuncData} (F:Fun K "_law_digit" "_law_digit" (top 21) f fd) (B:Bl mg):aH P w K mg base CX0 1 f fd ["_law_pot_here","_law_many"] cz:=by
 refine F.ok kj (fun vs H Q E h=>?_) (fun cdv A outer s H vs Q E hr h=>?_)
 ·obtain⟨p,n,rfl,_⟩:=h
  rfl
 ·obtain⟨p,n,rfl,⟨a,b,hp,hb0,hb1⟩,hn,hn2,k⟩:=h
  refine⟨_,ak (aV (aL dW (ay aG (pv 0) af (fun _ _=>rfl)) af (aN _))
    (ak (au (i:=2) kj.nd rfl (Or.inl rfl) (av cW (ay aG (pv 0) af (fun _ _=>rfl)) (pv 1)))
    (ak (cf (av m7 (ay aG (pv 0) af (fun _ _=>rfl)) (pv 1)) (cS (pv 0) af set_list))
     (aq (aI (pv 2))))) aS)
   (ak (cf (av cW (av bK (av cT (ay aG (pv 0) af (fun _ _=>rfl)) af) af) af) (cS (pv 0) af set_list))
   (aq (aI (av cW (av nR (av cW (av cT (ay aG (pv 0) af (fun _ _=>rfl)) (ay aG (pv 0) af (fun _ _=>rfl))) af) af) (pv 1))))),?_⟩
  have hS:Sq K H p [.int a,.int b]:=.inl (SqL.of hp)
  refine⟨_,rfl,aB (j:=0) hS rfl rfl ⟨_,_,rfl,rfl,_,rfl,?_⟩⟩
  refine aX (fun c=>?_) (fun c=>?_)
  ·refine⟨_,rfl,aB (j:=0) hS rfl rfl ⟨_,rfl,_,_,rfl,rfl,hn,?_⟩⟩
   refine⟨_,rfl,aB (j:=0) hS rfl rfl ⟨_,rfl,_,_,rfl,rfl,⟨hn,hn2⟩,_,rfl,p,[.int a,.int b],_,0,rfl,rfl,hp,rfl,?_⟩⟩
   exact⟨_,rfl,k _ _ (Int.emod_nonneg _ (by omega)) (Int.emod_lt_of_pos _ hn) ⟨_,_,ai,hb0,hb1⟩ ((Kp.refl _ _).inn (by simp))⟩
  ·refine⟨_,rfl,aB (j:=1) hS rfl rfl ⟨_,_,rfl,rfl,.inl ⟨by omega,by omega⟩,_,_,rfl,rfl,_,_,rfl,rfl,by show (0:Int) < 2147483647;decide,_,rfl,p,[.int a,.int b],_,1,rfl,rfl,hp,rfl,?_⟩⟩
   have m0:0<=(b * 39373 + 20011) % 2147483647:=Int.emod_nonneg _ (by decide)
   have m1:(b * 39373 + 20011) % 2147483647 < 2147483647:=Int.emod_lt_of_pos _ (by decide)
   have hS2:Sq K (upd H p (.lst ([V.int a,V.int b].set 1 (.int ((b * 39373 + 20011) % 2147483647))))) p [.int a,.int ((b * 39373 + 20011) % 2147483647)]:=.inl (SqL.of ai)
   refine⟨_,rfl,aB (j:=1) hS2 rfl rfl ⟨_,rfl,aB (j:=1) hS2 rfl rfl ⟨_,_,rfl,rfl,.inl ⟨by omega,by omega⟩,_,_,rfl,rfl,by show (0:Int) < 2147483563;decide,_,_,rfl,rfl,⟨by decide,by decide⟩,_,rfl,_,_,rfl,rfl,hn,?_⟩⟩⟩
   exact k _ _ (Int.emod_nonneg _ (by omega)) (Int.emod_lt_of_pos _ hn) ⟨_,_,ai,m0,by omega⟩ ((Kp.refl _ _).inn (by simp))
structure Nmd (x:Str) (k:Nat):Prop where
 ex:∃u:List Nat,x.cps.toList=u++[97 + k]/\u.length<=3/\∀c∈u,97<=c/\c<=122
theorem Nmd.name {x:Str}{k:Nat} (h:Nmd x k) (hk:k < 26):aJ x:=by
 obtain⟨u,e,hu,hc⟩:=h.ex
 refine aJ.of_codes e (by simp) (by simp;omega) fun c hm=>?_
 rcases List.mem_append.mp hm with z | z
 ·exact hc c z
 ·have:c=97 + k:=by simpa using z
  omega
theorem Nmd.inj {x:Str}{k j:Nat} (h:Nmd x k) (h':Nmd x j):k=j:=by
 obtain⟨u,e,_⟩:=h.ex
 obtain⟨u',e',_⟩:=h'.ex
 rw [e] at e'
 have:=(List.append_inj' e' rfl).2
 simp at this
 omega
noncomputable def six:Str:=Str.ofString "abmxyz"
theorem nQ:∀r:_root_.Fin 6,∃c,six.cps.toList[r.val]?=some c/\97<=c/\c<=122:=by
 intro r
 match r with
 | ⟨0,_⟩=>exact⟨97,by show six.cps.toList[0]?=some 97;decide,by decide,by decide⟩
 | ⟨1,_⟩=>exact⟨98,by show six.cps.toList[1]?=some 98;decide,by decide,by decide⟩
 | ⟨2,_⟩=>exact⟨109,by show six.cps.toList[2]?=some 109;decide,by decide,by decide⟩
 | ⟨3,_⟩=>exact⟨120,by show six.cps.toList[3]?=some 120;decide,by decide,by decide⟩
 | ⟨4,_⟩=>exact⟨121,by show six.cps.toList[4]?=some 121;decide,by decide,by decide⟩
 | ⟨5,_⟩=>exact⟨122,by show six.cps.toList[5]?=some 122;decide,by decide,by decide⟩
theorem pC {r:Nat} (h:r < 6):∃c,six.cps.toList[r]?=some c/\97<=c/\c<=122:=nQ ⟨r,h⟩
theorem nB:six.length<=sizeLine:=by decide
theorem lM (x:Str) (c:Nat):(x++(⟨#[c]⟩:Str)).cps.toList=x.cps.toList++[c]:=by
 rw [Str.cps_append,Array.toList_append]
noncomputable def je:Sp:=fun vs H Q _=>∃(p:Addr) (k:Nat),vs=[.ref p,.int k]/\Pot H p/\k < 26/\∀x H',Nmd x k->Pot H' p->Kp [p] H H'->Q (.str x) H'
noncomputable abbrev N22:List Str:=["_law_pot_here","_law_k","_law_begin"]
theorem kH:aQ N22 ["_law_pot_here","_law_k"] (aF (top 22)):=⟨rfl,rfl,rfl,by decide +kernel,rfl,by decide +kernel,by decide +kernel⟩
theorem nZ {f:Addr}{fd:FuncData} (F:Fun K "_law_name" "_law_name" (top 22) f fd) (B:Bl mg) (Ft:Fn P w K mg base 1 "_law_digit" ["_law_pot_here","_law_many"] cz):aH P w K mg base CX0 2 f fd ["_law_pot_here","_law_k"] je:=by
 refine F.ok kH (fun vs H Q E h=>?_) (fun cdv A outer s H vs Q E hr h=>?_)
 ·obtain⟨p,k,rfl,_⟩:=h
  rfl
 ·obtain⟨p,kk,rfl,hp,hk,k⟩:=h
  refine⟨_,ak (au (i:=2) kH.nd rfl (Or.inl rfl) (bX PySem.F.plainAttrs_str PySem.F.slot_str_join PySem.F.type_str_join iY cC (aa (bb (N:=["_law_turn","_law_pot_here"]) (ix:=[none,some 0]) ⟨rfl,rfl,rfl,by decide⟩ rfl
      (bS rfl B.range (aa (ar Ft hr (aa (pv 0) (aa af ab))) ab)) (fun _ _ _ _=>aO 0 (by decide) rfl rfl) (fun _ _ _ _=>a9)
      (fun _ _ _ _=>ay (bN K) cC (ar Ft hr (aa (pv 1) (aa af ab))) (fun _ _=>rfl))) ab)))
   (aq (aI (av lB (pv 2) (ay aG cC (pv 1) (fun _ _=>rfl))))),?_⟩
  have hah:∀(cs:List Nat),(Txt.join (Str.ofString "") (cs.map fun c=>(⟨#[c]⟩:Str))).length=cs.length:=fun cs=>by
   rw [<- congrArg List.length (join_one cs)];simp [Str.length]
  have hsum:∀l:List Nat,((l.map fun c=>(⟨#[c]⟩:Str)).map (·.length)).sum=l.length:=fun l=>by
   induction l with
   | nil=>rfl
   | cons c r ih=>simp only [List.map_cons,List.sum_cons,ih,List.length_cons];show 1 + r.length=_;omega
  refine⟨rfl,_,rfl,p,4,rfl,hp,by decide,by decide,fun r4 H4 a0 a1 P4 K4=>⟨_,rfl,by omega,by omega,?_⟩⟩
  refine cv (fits (by omega)) (fun j ys σ H5=>(∃cs:List Nat,cs.length=j/\(∀c∈cs,97<=c/\c<=122)/\ys=cs.map fun c=>V.str ⟨#[c]⟩)/\Pot H5 p/\Kp [p] H H5/\∃x,σ=[x,some (.ref p)])
   ⟨⟨[],rfl,by simp,rfl⟩,P4,K4,_,rfl⟩ (fun j ys σ H5 _ q=>by obtain⟨⟨cs,rfl,_,rfl⟩,_⟩:=q;simp) ?_ ?_
  ·rintro j ys σ H5 hj ⟨⟨cs,rfl,hcs,rfl⟩,P5,K5,v,rfl⟩
   refine⟨_,rfl,p,6,rfl,P5,by decide,by decide,fun r H6 r0 r1 P6 K6=>?_⟩
   obtain⟨c6,e6,l6,u6⟩:=pC (r:=r.toNat) (by omega)
   refine .inr (.inr ⟨six,r,c6,rfl,rfl,nB,dQ (j:=r.toNat) (by omega) e6,⟨cs++[c6],by simp,fun c hc=>?_,by simp⟩,P6,K5.trans K6,_,rfl⟩)
   rcases List.mem_append.mp hc with z | z
   ·exact hcs c z
   ·have:c=c6:=by simpa using z
    omega
  rintro ys σ H5 ⟨⟨cs,hlen,hcs,rfl⟩,P5,K5,v,rfl⟩ q hq
  have hx:(Txt.join (Str.ofString "") (cs.map fun c=>(⟨#[c]⟩:Str))).cps.toList=cs:=join_one cs
  have hmap:(cs.map fun c=>V.str ⟨#[c]⟩)=(cs.map fun c=>(⟨#[c]⟩:Str)).map V.str:=by rw [List.map_map];rfl
  have hal:=hah cs
  have hc3:cs.length<=3:=by omega
  refine⟨Str.ofString "",q,cs.map fun c=>(⟨#[c]⟩:Str),rfl,rfl,SqL.of (by rw [ai,hmap]),?_,?_⟩
  ·have e0:(Str.ofString "").length=0:=by decide
   rw [hsum,e0]
   omega
  generalize Txt.join (Str.ofString "") (cs.map fun c=>(⟨#[c]⟩:Str))=wd at hx hal ⊢
  have P6:=P5.new (o:=.lst (cs.map fun c=>V.str ⟨#[c]⟩)) hq
  have K6:=(K5.new (o:=.lst (cs.map fun c=>V.str ⟨#[c]⟩)) hq)
  generalize upd H5 q (.lst (cs.map fun c=>V.str ⟨#[c]⟩))=H6 at P6 K6 ⊢
  refine⟨_,rfl,_,rfl,.inr (.inr ⟨cM,kk,97 + kk,rfl,rfl,gA,dQ (j:=kk) rfl (gL hk),_,_,rfl,rfl,by rw [sizeLine_eq];show wd.length + 1<=_;omega,k _ H6 ⟨cs,by rw [lM,hx],hc3,hcs⟩ P6 K6⟩)⟩
end
theorem gG {α:Type}:∀{l:List α}{i:Nat} (hi:i < l.length),l.Nodup->l[i]∉l.eraseIdx i
 | x::r,0,_,h=>by simpa using (List.nodup_cons.mp h).1
 | x::r,i + 1,hi,h=>by
  have h':=List.nodup_cons.mp h
  have hi':i < r.length:=by simpa using hi
  rw [List.eraseIdx_cons_succ,List.getElem_cons_succ]
  intro q
  rcases List.mem_cons.mp q with e | e
  ·exact h'.1 (e ▸ List.getElem_mem hi')
  ·exact gG hi' h'.2 e
theorem hU {α β:Type} (f:α->β):∀(l:List α) (i:Nat),(l.map f).eraseIdx i=(l.eraseIdx i).map f
 | [],i=>by simp
 | x::r,0=>rfl
 | x::r,i + 1=>by simp [hU f r i]
noncomputable abbrev Le:=Addr×Str×Str
noncomputable abbrev aT (les:List Le):List V:=les.map fun x=>V.ref x.1
structure bA (H:Hp) (fo:Addr) (les:List Le):Prop where
 l:H fo=some (.lst (aT les))
 e:∀x∈les,H x.1=some (.tup [.str x.2.1,.str x.2.2])
noncomputable def LeP (ps:List Str) (les:List Le):Prop:=∀x∈les,x.2.1∈ps/\x.2.2∈ps/\x.2.1≠x.2.2
theorem bA.same {H H':Hp}{fo:Addr}{les:List Le} (h:bA H fo les) (s:ae H H'):bA H' fo les:=⟨s _ _ h.l,fun x hx=>s _ _ (h.e x hx)⟩
theorem bA.kp {H H':Hp}{p fo:Addr}{les:List Le} (h:bA H fo les) (hp:Pot H p) (n:fo≠p) (k:Kp [p] H H'):bA H' fo les:=⟨k.at n h.l,fun x hx=>k.tup hp (h.e x hx)⟩
section
variable {P:Program}{w:World}{K:PySem.W.Frag}{mg:Str->Option Value}{base:Heap}
noncomputable def jv:Sp:=fun vs H Q _=>∃(p pl:Addr) (root:Str) (ps:List Str),vs=[.ref p,.ref pl,.str root]/\Pot H p/\H pl=some (.lst (ps.map V.str))/\root∈ps/\ps.Nodup/\(∀x∈ps,aJ x)/\ps.length<=8 /\
 ∀(q:Addr) (les:List Le) (H':Hp),Pot H' p->bA H' q les->LeP ps les->les.length + 1<=ps.length->H q=none->Kp [p] H H'->Q (.ref q) H'
noncomputable abbrev N23:List Str:=["_law_pot_here","_law_places","_law_root","_law_left","_law_there","_law_found","_law_begin","_law_end"]
theorem dB:aQ N23 ["_law_pot_here","_law_places","_law_root"] (aF (top 23)):=⟨rfl,rfl,rfl,by decide +kernel,rfl,by decide +kernel,by decide +kernel⟩
theorem nH {f:Addr}{fd:FuncData} (F:Fun K "_law_grown" "_law_grown" (top 23) f fd) (B:Bl mg) (Ft:Fn P w K mg base 1 "_law_digit" ["_law_pot_here","_law_many"] cz):aH P w K mg base CX0 2 f fd ["_law_pot_here","_law_places","_law_root"] jv:=by
 refine F.ok dB (fun vs H Q E h=>?_) (fun cdv A outer s H vs Q E hr h=>?_)
 ·obtain⟨p,pl,root,ps,rfl,_⟩:=h
  rfl
 ·obtain⟨p,pl,root,ps,rfl,hp,hpl,hroot,pnd,pnm,p8,k⟩:=h
  refine⟨_,ak (dG (i:=3) (N:=["_law_place","_law_root"]) (ix:=[none,some 2]) dB.nd rfl (Or.inl rfl) ⟨rfl,rfl,rfl,by decide⟩ rfl (b9 (pv 1)) (fun _ _ _ _=>aO 0 (by decide) rfl rfl) (fun _ _ _ _=>dj (aL bv (pv 0) (pv 1) (aN _))) (fun _ _ _ _=>pv 0))
   (ak (au (i:=4) dB.nd rfl (Or.inl rfl) (bV (aa (pv 2) ab)))
   (ak (au (i:=5) dB.nd rfl (Or.inl rfl) (bV ab))
   (ak (iS PassesOwn.never (aL (pP hr) (pv 3) (bV ab) (aN _))
    (ak (au (i:=6) dB.nd rfl (Or.inl rfl) (ay aG (pv 4) (ar Ft hr (aa (pv 0) (aa (aw bc rfl B.len PySem.boot_len (aa (pv 4) ab)) ab))) (fun _ _=>rfl)))
    (ak (au (i:=7) dB.nd rfl (Or.inl rfl) (bX PySem.F.plainAttrs_list PySem.F.slot_list_pop PySem.F.type_list_pop mZ (pv 3) (aa (ar Ft hr (aa (pv 0) (aa (aw bc rfl B.len PySem.boot_len (aa (pv 3) ab)) ab))) ab)))
    (ak (cR (bX PySem.F.plainAttrs_list PySem.F.slot_list_append PySem.F.type_list_append dE (pv 4) (aa (pv 7) ab)))
    (aq (cR (bX PySem.F.plainAttrs_list PySem.F.slot_list_append PySem.F.type_list_append dE (pv 5) (aa (ce (aa (pv 6) (aa (pv 7) ab))) ab))))))))
   (aq (aI (pv 5)))))),?_⟩
  refine⟨_,rfl,pl,rfl,⟨_,SqL.of hpl⟩,ij (xs:=ps.map V.str) (fits (by simp;omega)) (fun i ys σ H2=>ys=((ps.take i).filter fun y=>!decide (y=root)).map V.str/\H2=H/\∃v,σ=[v,some (.str root)]) ⟨rfl,rfl,_,rfl⟩
   (fun i ys σ H2 _ q=>⟨by rw [q.1,List.length_map];exact Nat.le_trans (List.length_filter_le _ _) (by simp;omega),by rw [q.2.1];exact SqL.of hpl⟩) ?_ ?_⟩
  ·rintro i y ys σ H2 hy ⟨rfl,rfl,v,rfl⟩
   rw [List.getElem?_map] at hy
   cases hc:ps[i]? with
   | none=>rw [hc] at hy;cases hy
   | some z =>
    rw [hc] at hy
    cases hy
    have tf:=dC (fun z:Str=>!decide (z=root)) ps i z hc
    refine⟨_,rfl,_,rfl,rfl,_,rfl,?_⟩
    have e:(!decide (V.str z=V.str root))=!decide (z=root):=by simp
    rw [e]
    refine aX (fun c=>⟨_,rfl,?_,rfl,_,rfl⟩) (fun c=>⟨?_,rfl,_,rfl⟩)
    ·rw [tf,c];simp
    ·rw [tf];simp only [Bool.not_eq_true] at c;rw [c];simp
  rintro ys σ H2 ⟨rfl,rfl,v,rfl⟩ l hl
  rw [take_all ps (by simp)]
  have nlp:=hp.ne_new hl
  have hfm:∀x∈ps.filter (fun y=>!decide (y=root)),x∈ps/\x∉[root]:=fun x hx=>by
   obtain⟨a,b⟩:=List.mem_filter.mp hx
   exact⟨a,by simpa using b⟩
  have hfn:(ps.filter fun y=>!decide (y=root)).Nodup:=pnd.filter _
  have hfl:(ps.filter fun y=>!decide (y=root)).length + 1<=ps.length:=by
   have q:(ps.filter fun y=>!decide (y=root)).length < ps.length:=by
    refine List.length_filter_lt_length_iff_exists.mpr ⟨root,hroot,by simp⟩
   omega
  generalize ps.filter (fun y=>!decide (y=root))=ls0 at hfl hfm hfn ⊢
  have p2:=hp.new (o:=.lst (ls0.map V.str)) hl
  have K2:=(Kp.refl [p] H2).new (o:=.lst (ls0.map V.str)) hl
  have l2:upd H2 l (.lst (ls0.map V.str)) l=some (.lst (ls0.map V.str)):=ai
  generalize upd H2 l (.lst (ls0.map V.str))=H3 at p2 K2 l2 ⊢
  refine⟨_,rfl,by show 1<=sizeLine;decide,fun d hd=>?_⟩
  have ndp:=p2.ne_new hd
  have nld:l≠d:=ax l2 hd
  have hd0:=K2.free1 p2 hd
  have p3:=p2.new (o:=.lst [.str root]) hd
  have K3:=K2.new (o:=.lst [.str root]) hd
  have d3:upd H3 d (.lst [.str root]) d=some (.lst ([root].map V.str)):=ai
  have l3:upd H3 d (.lst [.str root]) l=some (.lst (ls0.map V.str)):=by rw [ag nld];exact l2
  generalize upd H3 d (.lst [.str root])=H3' at p3 K3 d3 l3 ⊢
  refine⟨Nat.zero_le _,fun fo hfo=>?_⟩
  have nfp:=p3.ne_new hfo
  have nfd:fo≠d:=(ax d3 hfo).symm
  have nfl:fo≠l:=(ax l3 hfo).symm
  have hfo0:=K3.free1 p3 hfo
  refine⟨fun m σ H4=>∃(ds ls:List Str) (les:List Le) (g g':Option V),σ=[some (.ref p),some (.ref pl),some (.str root),some (.ref l),some (.ref d),some (.ref fo),g,g']/\ls.length=m/\Pot H4 p/\Kp [p] H2 H4/\H4 d=some (.lst (ds.map V.str))/\H4 l=some (.lst (ls.map V.str))/\bA H4 fo les/\LeP ps les/\les.length + ls.length + 1<=ps.length/\ds.length=les.length + 1/\(∀x∈ds,x∈ps)/\(∀x∈ls,x∈ps/\x∉ds)/\ls.Nodup,
   ⟨_,[root],ls0,[],none,none,rfl,rfl,p3.new hfo,K3.new hfo,by rw [ag nfd.symm];exact d3,by rw [ag nfl.symm];exact l3,⟨ai,by simp⟩,(by intro x hx;simp at hx),by simp;omega,rfl,by simpa using hroot,hfm,hfn⟩,?_⟩
  rintro m σ H4 ⟨ds,ls,les,g,g',rfl,rfl,P4,K4,D4,L4,A4,hle,hn,hds,hd1,hl1,hln⟩
  refine⟨_,rfl,Nat.zero_le _,fun e he=>?_⟩
  have u4:=ao (o:=.lst []) (ae.refl H4) he
  have e1:upd H4 e (.lst []) e=some (.lst []):=ai
  have P5:=P4.new (o:=.lst []) he
  have K5:=K4.new (o:=.lst []) he
  generalize upd H4 e (.lst [])=H5 at u4 e1 P5 K5 ⊢
  have L5:=u4 _ _ L4
  have D5:=u4 _ _ D4
  have A5:=A4.same u4
  refine⟨.list (ls.map PyData.str),.list [],.lst L5 (DVs.strs ls),.lst e1 .nil,(gC fun x hx=>pnm x (hl1 x hx).1).1,(gC (ss:=[]) (by simp)).1,_,rfl,?_⟩
  have ev:PyData.eqv (.list (ls.map PyData.str)) (.list [])=decide (ls=[]):=gH ls []
  rw [ev]
  refine aX (fun c=>?_) (fun c=>?_)
  ·have hne:ls≠[]:=by simpa using c
   have hlp:0 < ls.length:=by cases ls with | nil=>exact absurd rfl hne | cons _ _=>simp
   refine⟨fun σ' H'=>∃m',m' < ls.length/\∃(ds ls:List Str) (les:List Le) (g g':Option V),σ'=[some (.ref p),some (.ref pl),some (.str root),some (.ref l),some (.ref d),some (.ref fo),g,g']/\ls.length=m'/\Pot H' p/\Kp [p] H2 H'/\H' d=some (.lst (ds.map V.str))/\H' l=some (.lst (ls.map V.str))/\bA H' fo les/\LeP ps les/\les.length + ls.length + 1<=ps.length/\ds.length=les.length + 1/\(∀x∈ds,x∈ps)/\(∀x∈ls,x∈ps/\x∉ds)/\ls.Nodup,fun σ' H' q=>q,?_⟩
   refine⟨_,rfl,_,rfl,_,rfl,d,_,rfl,.inl (SqL.of D5),p,_,rfl,P5,by rw [List.length_map];omega,by rw [List.length_map];omega,fun j H9 j0 j1 P9 K9=>?_⟩
   rw [List.length_map] at j1
   have hjl:j.toNat < ds.length:=by omega
   have D9:=K9.at ndp D5
   have L9:=K9.at nlp L5
   have A9:=A5.kp P5 nfp K9
   have K09:=K5.trans K9
   refine aB (j:=j.toNat) (.inl (SqL.of D9)) (by omega) (strAt hjl) ?_
   have ham:ds[j.toNat]∈ds:=List.getElem_mem hjl
   generalize ds[j.toNat]=a at ham ⊢
   refine⟨_,rfl,.inl ⟨rfl,_,SqL.of L9⟩,_,rfl,_,rfl,l,_,rfl,.inl (SqL.of L9),p,_,rfl,P9,by rw [List.length_map];omega,by rw [List.length_map];omega,fun i H6 i0 i1 P6 K6=>?_⟩
   rw [List.length_map] at i1
   have L6:=K6.at nlp L9
   have D6:=K6.at ndp D9
   have A6:=A9.kp P9 nfp K6
   have K06:=K09.trans K6
   have hil:i.toNat < ls.length:=by omega
   refine⟨l,ls.map V.str,i,i.toNat,.str ls[i.toNat],rfl,rfl,L6,by omega,by omega,seqIndex_of i0 (by rw [List.length_map];omega),strAt hil,?_⟩
   have hze:=hl1 _ (List.getElem_mem hil)
   have herl:(ls.eraseIdx i.toNat).length + 1=ls.length:=by rw [List.length_eraseIdx,if_pos hil];omega
   have hsub:∀x∈ls.eraseIdx i.toNat,x∈ls:=fun x hx=>List.mem_of_mem_eraseIdx hx
   have hnz:ls[i.toNat]∉ls.eraseIdx i.toNat:=gG hil hln
   have hnd':(ls.eraseIdx i.toNat).Nodup:=hln.sublist (List.eraseIdx_sublist _ _)
   have em:(ls.map V.str).eraseIdx i.toNat=(ls.eraseIdx i.toNat).map V.str:=hU _ _ _
   rw [em]
   generalize ls[i.toNat]=z at hze hnz ⊢
   generalize ls.eraseIdx i.toNat=ls' at herl hsub hnz hnd' ⊢
   have P7:=P6.upd (o:=.lst (ls'.map V.str)) nlp
   have K7:Kp [p] H2 (upd H6 l (.lst (ls'.map V.str))):=fun b o q nb=>by rw [ag (ax q hl)];exact K06 b o q nb
   have L7:upd H6 l (.lst (ls'.map V.str)) l=some (.lst (ls'.map V.str)):=ai
   have D7:upd H6 l (.lst (ls'.map V.str)) d=some (.lst (ds.map V.str)):=by rw [ag nld.symm];exact D6
   have A7:bA (upd H6 l (.lst (ls'.map V.str))) fo les:=⟨by rw [ag nfl];exact A6.l,fun x hx=>by rw [ag (tup_ne (A6.e x hx) L6)];exact A6.e x hx⟩
   generalize upd H6 l (.lst (ls'.map V.str))=H7 at P7 K7 L7 D7 A7 ⊢
   refine⟨_,rfl,.inl ⟨rfl,_,SqL.of D7⟩,_,rfl,d,ds.map V.str,.str z,rfl,rfl,D7,fits (by simp;omega),?_⟩
   have P8:=P7.upd (o:=.lst (ds.map V.str++[.str z])) ndp
   have K8:Kp [p] H2 (upd H7 d (.lst (ds.map V.str++[.str z]))):=fun b o q nb=>by rw [ag (ax q hd0)];exact K7 b o q nb
   have D8:upd H7 d (.lst (ds.map V.str++[.str z])) d=some (.lst ((ds++[z]).map V.str)):=by rw [ai,List.map_append];rfl
   have L8:upd H7 d (.lst (ds.map V.str++[.str z])) l=some (.lst (ls'.map V.str)):=by rw [ag nld];exact L7
   have A8:bA (upd H7 d (.lst (ds.map V.str++[.str z]))) fo les:=⟨by rw [ag nfd];exact A7.l,fun x hx=>by rw [ag (tup_ne (A7.e x hx) D7)];exact A7.e x hx⟩
   generalize upd H7 d (.lst (ds.map V.str++[.str z]))=H8 at P8 K8 D8 L8 A8 ⊢
   refine⟨_,rfl,.inl ⟨rfl,_,SqL.of A8.l⟩,_,rfl,_,rfl,by show 2<=sizeLine;decide,fun n hn=>?_⟩
   have u9:=ao (o:=.tup [.str a,.str z]) (ae.refl H8) hn
   have n9:upd H8 n (.tup [.str a,.str z]) n=some (.tup [.str a,.str z]):=ai
   have P10:=P8.new (o:=.tup [.str a,.str z]) hn
   have K10:=K8.new (o:=.tup [.str a,.str z]) hn
   generalize upd H8 n (.tup [.str a,.str z])=H10 at u9 n9 P10 K10 ⊢
   have A10:=A8.same u9
   have D10:=u9 _ _ D8
   have L10:=u9 _ _ L8
   refine⟨fo,aT les,.ref n,rfl,rfl,A10.l,fits (by rw [List.length_map];omega),?_⟩
   have P11:=P10.upd (o:=.lst (aT les++[.ref n])) nfp
   have K11:Kp [p] H2 (upd H10 fo (.lst (aT les++[.ref n]))):=fun b o q nb=>by rw [ag (ax q hfo0)];exact K10 b o q nb
   have A11:bA (upd H10 fo (.lst (aT les++[.ref n]))) fo (les++[(n,a,z)]):=⟨by rw [ai];simp [aT],fun x hx=>by
    rcases List.mem_append.mp hx with q | q
    ·rw [ag (tup_ne (A10.e x q) A10.l)];exact A10.e x q
    ·have e:x=(n,a,z):=(by simpa using q)
     subst e
     show upd H10 fo _ n=_
     rw [ag (tup_ne n9 A10.l)];exact n9⟩
   have D11:upd H10 fo (.lst (aT les++[.ref n])) d=some (.lst ((ds++[z]).map V.str)):=by rw [ag nfd.symm];exact D10
   have L11:upd H10 fo (.lst (aT les++[.ref n])) l=some (.lst (ls'.map V.str)):=by rw [ag nfl.symm];exact L10
   refine⟨ls'.length,by omega,ds++[z],ls',les++[(n,a,z)],_,_,rfl,rfl,P11,K11,D11,L11,A11,?_,by simp;omega,by simp;omega,?_,?_,hnd'⟩
   ·intro x hx
    rcases List.mem_append.mp hx with q | q
    ·exact hle x q
    ·have e:x=(n,a,z):=by simpa using q
     subst e;exact⟨hd1 a ham,hze.1,fun q=>hze.2 ((show a=z from q) ▸ ham)⟩
   ·intro y hy
    rcases List.mem_append.mp hy with q | q
    ·exact hd1 y q
    ·have e:y=z:=by simpa using q
     subst e;exact hze.1
   ·intro y hy
    have q:=hl1 y (hsub y hy)
    refine⟨q.1,fun hm=>?_⟩
    rcases List.mem_append.mp hm with w' | w'
    ·exact q.2 w'
    ·have e:y=z:=by simpa using w'
     subst e;exact hnz hy
  ·exact⟨_,rfl,k fo les H5 P5 A5 hle (by omega) hfo0 K5⟩
end
theorem o9 {les:List Le}{i:Nat}{x:V} (h:(aT les)[i]?=some x):∃r,les[i]?=some r/\x=.ref r.1:=by
 unfold aT at h
 rw [List.getElem?_map] at h
 cases e:les[i]? with
 | none=>rw [e] at h;cases h
 | some r=>rw [e] at h;exact⟨r,rfl,(Option.some.inj h).symm⟩
theorem Kp.upd0 {P:List Addr}{H H1:Hp}{q:Addr}{o:HO} (a:Kp P H H1) (hq:H q=none):Kp P H (upd H1 q o):=fun c ob h n=>by rw [ag (ax h hq)];exact a c ob h n
noncomputable def Nms (ns:List Str):Prop:=∀j x,ns[j]?=some x->Nmd x j
theorem Nms.name {ns:List Str} (D:Nms ns) (hz:ns.length<=26):∀x∈ns,aJ x:=fun x hx=>by
 obtain⟨j,hj⟩:=List.getElem?_of_mem hx
 have hjl:=(List.getElem?_eq_some_iff.mp hj).1
 exact (D j x hj).name (by omega)
theorem Nms.nodup {ns:List Str} (D:Nms ns):ns.Nodup:=by
 refine List.pairwise_iff_getElem.mpr fun i j hi hj hij e=>?_
 have h1:=D i _ (List.getElem?_eq_getElem hi)
 have h2:=D j _ (List.getElem?_eq_getElem hj)
 rw [<- e] at h2
 have:=h1.inj h2
 omega
theorem Nms.add {ns:List Str}{x:Str} (D:Nms ns) (h:Nmd x ns.length):Nms (ns++[x]):=fun j y hj=>by
 by_cases hl:j < ns.length
 ·rw [List.getElem?_append_left hl] at hj
  exact D j y hj
 ·rw [List.getElem?_append_right (by omega)] at hj
  have hj0:j - ns.length=0:=by
   have:=(List.getElem?_eq_some_iff.mp hj).1
   simp at this
   omega
  rw [hj0] at hj
  have ey:x=y:=by simpa using hj
  subst ey
  have ej:j=ns.length:=by omega
  subst ej
  exact h
theorem qI (xs:List V):bw xs none (some 26)=xs.take 26:=by
 unfold bw
 rw [HT.rS,show (26:Int)=((26:Nat):Int) from rfl,HT.rX]
 rw [List.drop_zero,Nat.sub_zero]
 rcases Nat.le_total 26 xs.length with h | h
 ·rw [Nat.min_eq_left h]
 ·rw [Nat.min_eq_right h,List.take_length,List.take_of_length_le h]
section
variable {P:Program}{w:World}{K:PySem.W.Frag}{mg:Str->Option Value}{base:Heap}
end
theorem gM {α:Type}{l:List α}{x:α} (h:l.Nodup) (hx:x∉l):(l++[x]).Nodup:=by
 rw [List.nodup_append]
 refine⟨h,by simp,fun a ha b hb=>?_⟩
 have e:b=x:=by simpa using hb
 subst e
 exact fun z=>hx (z ▸ ha)
theorem jC:∀{a b:List Str},a.Nodup->(∀x∈a,x∈b)->a.length<=b.length
 | [],_,_,_=>Nat.zero_le _
 | x::a,b,hn,hs=>by
  obtain⟨h1,h2⟩:=List.nodup_cons.mp hn
  have hx:=hs x List.mem_cons_self
  have ih:=jC (a:=a) (b:=b.erase x) h2 (fun y hy=>(List.mem_erase_of_ne (a:=y) (b:=x) (fun z:y=x=>h1 (z ▸ hy))).mpr (hs y (List.mem_cons_of_mem _ hy)))
  rw [List.length_erase_of_mem hx] at ih
  have:=List.length_pos_of_mem hx
  simp
  omega
theorem pX (xs:List V) {n:Nat} (h:n<=xs.length):bw xs none (some (n:Int))=xs.take n:=by
 unfold bw
 have h0:¬ ((n:Int) < 0):=by omega
 have h1:min n xs.length=n:=by omega
 simp [HT.sIx,h0]
 first | done | (rw [h1]) | skip
theorem rN {c:Const}{k:Nat}{p:Pos}{es:List Expr}{env:Env}:starEach (.Constant c k p::es) env=(false,eval (.Constant c k p) env)::starEach es env:=rfl
theorem cy {X:Cx}{x:Str}{j:Nat}{p:Pos}{es:List Expr}{t:TA} (h:PA X es t):PA X (.Constant (.str x) j p::es) (jX (tC (.str x)) t):=aa cC h rN
noncomputable def bu:List Str:=["root","source","sink","new","extra","start","end","super"].map Str.ofString
theorem lw:∀x∈bu,aJ x:=by
 intro x hx
 simp only [bu,List.map_cons,List.map_nil,List.mem_cons,List.not_mem_nil,or_false] at hx
 rcases hx with rfl | rfl | rfl | rfl | rfl | rfl | rfl | rfl
 all_goals exact aJ.of_codes rfl (by decide) (by decide) (by decide)
theorem lp:bu.Nodup:=by decide
noncomputable def rot (b n:Nat):List Str:=(List.range n).filterMap fun k=>bu[(b + k) % 8]?
theorem fk:bu.length=8:=rfl
theorem iU (b k:Nat):bu[(b + k) % 8]?=some (bu[(b + k) % 8]'(by rw [fk];exact Nat.mod_lt _ (by decide))):=List.getElem?_eq_getElem _
theorem fz (b n:Nat):rot b (n + 1)=rot b n++[bu[(b + n) % 8]'(by rw [fk];exact Nat.mod_lt _ (by decide))]:=by
 unfold rot
 rw [List.range_succ,List.filterMap_append]
 simp [iU]
theorem fJ (b:Nat):∀n,(rot b n).length=n
 | 0=>rfl
 | n + 1=>by rw [fz,List.length_append,fJ b n];rfl
theorem jh {b:Nat}:∀{n:Nat}{x:Str},x∈rot b n->∃k,k < n/\bu[(b + k) % 8]?=some x
 | n,x,h=>by
  unfold rot at h
  obtain⟨k,hk,e⟩:=List.mem_filterMap.mp h
  exact⟨k,List.mem_range.mp hk,e⟩
theorem ib (b:Nat):∀{n:Nat},n<=8->(rot b n).Nodup
 | 0,_=>List.nodup_nil
 | n + 1,h=>by
  rw [fz]
  refine List.nodup_append.mpr ⟨ib b (by omega),by simp,fun x hx y hy=>?_⟩
  have ey:y=bu[(b + n) % 8]'(by rw [fk];exact Nat.mod_lt _ (by decide)):=by simpa using hy
  obtain⟨k,hk,e⟩:=jh hx
  obtain⟨h1,e'⟩:=List.getElem?_eq_some_iff.mp e
  intro z
  rw [ey,<- e'] at z
  have hp:=List.pairwise_iff_getElem.mp lp
  have hne:(b + k) % 8≠(b + n) % 8:=by omega
  rcases Nat.lt_or_gt_of_ne hne with q | q
  ·exact hp _ _ _ _ q z
  ·exact hp _ _ _ _ q z.symm
theorem mM (b n:Nat):∀x∈rot b n,aJ x:=fun x hx=>by
 obtain⟨k,_,e⟩:=jh hx
 exact lw x (List.mem_of_getElem? e)
noncomputable def cm (fo ns:List Str):List Str:=(fo++ns.filter fun x=>!decide (x∈fo)).take ns.length
theorem nk {fo ns:List Str} (hf:fo.length<=ns.length) (hn:ns.Nodup):(cm fo ns).length=ns.length:=by
 unfold cm
 rw [List.length_take,List.length_append]
 have h1:ns.length=(ns.filter fun x=>decide (x∈fo)).length + (ns.filter fun x=>!decide (x∈fo)).length:=by
  have:=List.length_eq_countP_add_countP (l:=ns) (fun x=>decide (x∈fo))
  rw [List.countP_eq_length_filter,List.countP_eq_length_filter] at this
  simpa using this
 have h2:(ns.filter fun x=>decide (x∈fo)).length<=fo.length:=jC (hn.filter _) fun x hx=>by simpa using (List.mem_filter.mp hx).2
 omega
theorem lF {fo ns:List Str} (hf:fo.Nodup) (hn:ns.Nodup):(cm fo ns).Nodup:=by
 unfold cm
 refine List.Nodup.sublist (List.take_sublist _ _) (List.nodup_append.mpr ⟨hf,hn.filter _,fun x hx y hy z=>?_⟩)
 have:=(List.mem_filter.mp hy).2
 rw [<- z] at this
 simp [hx] at this
theorem mm {fo ns:List Str} (hf:∀x∈fo,aJ x) (hn:∀x∈ns,aJ x):∀x∈cm fo ns,aJ x:=fun x hx=>by
 rcases List.mem_append.mp (List.mem_of_mem_take hx) with z | z
 ·exact hf x z
 ·exact hn x (List.mem_filter.mp z).1
theorem mB {cs:List Nat} (h1:1<=cs.length) (h8:cs.length<=8) (h:∀c∈cs,97<=c/\c<=122):aJ (Txt.join (Str.ofString "") (cs.map fun c=>(⟨#[c]⟩:Str))):=aJ.of_codes (join_one cs) h1 h8 h
theorem nI (cs:List Nat):((cs.map fun c=>(⟨#[c]⟩:Str)).map (·.length)).sum=cs.length:=by
 induction cs with
 | nil=>rfl
 | cons c r ih=>simp only [List.map_cons,List.sum_cons,ih,List.length_cons];show 1 + r.length=_;omega
section
variable {P:Program}{w:World}{K:PySem.W.Frag}{mg:Str->Option Value}{base:Heap}
noncomputable def eC:Sp:=fun vs H Q _=>∃(p na:Addr) (ns:List Str),vs=[.ref p,.ref na]/\Pot H p/\H na=some (.lst (ns.map V.str))/\ns.length<=26/\ns.Nodup/\(∀x∈ns,aJ x) /\
 ∀(q:Addr) (ms:List Str) (H':Hp),Pot H' p->H' q=some (.lst (ms.map V.str))->(∀x∈ms,aJ x)->ms.Nodup->ms.length=ns.length->Kp [p] H H'->Q (.ref q) H'
noncomputable abbrev N24:List Str:=["_law_pot_here","_law_names","_law_letters","_law_found","_law_name_here","_law_word"]
theorem dA:aQ N24 ["_law_pot_here","_law_names"] (aF (top 24)):=⟨rfl,rfl,rfl,by decide +kernel,rfl,by decide +kernel,by decide +kernel⟩
theorem nV {f:Addr}{fd:FuncData} (F:Fun K "_law_free" "_law_free" (top 24) f fd) (B:Bl mg) (Ft:Fn P w K mg base 1 "_law_digit" ["_law_pot_here","_law_many"] cz):aH P w K mg base CX0 2 f fd ["_law_pot_here","_law_names"] eC:=by
 refine F.ok dA (fun vs H Q E h=>?_) (fun cdv A outer s H vs Q E hr h=>?_)
 ·obtain⟨p,na,ns,rfl,_⟩:=h
  rfl
 ·obtain⟨p,na,ns,rfl,hp,hna,hn26,hnd,hnm,k⟩:=h
  refine' ⟨_,?d0,?main⟩
  case' d0=>refine' ak (au (i:=2) dA.nd rfl (Or.inr rfl) cC) ?d1
  case' d1=>refine' ak (au (i:=3) dA.nd rfl (Or.inl rfl) (bV ab)) ?d2
  case' d2=>refine' ak (bU PassesOwn.never rfl (b9 (pv 1)) (aZ (i:=4) dA.nd rfl (Or.inl rfl)) ?d4) ?d3
  case d3=>exact aq (aI (pv 3))
  case' d4=>refine' ak (au (i:=5) dA.nd rfl (Or.inl rfl) (bX PySem.F.plainAttrs_str PySem.F.slot_str_join PySem.F.type_str_join iY cC (aa (bb (N:=["_law_turn","_law_letters","_law_pot_here"]) (ix:=[none,some 2,some 0]) ⟨rfl,rfl,rfl,by decide⟩ rfl
    (bS rfl B.range (aa (av bK af (ar Ft hr (aa (pv 0) (aa af ab)))) ab)) (fun _ _ _ _=>aO 0 (by decide) rfl rfl) (fun _ _ _ _=>a9)
    (fun _ _ _ _=>ay (bN K) (pv 1) (ar Ft hr (aa (pv 2) (aa af ab))) (fun _ _=>rfl))) ab))) ?d5
  case' d5=>refine' ak (aV (PW.pt (bW (aL fq (pv 5) (pv 3) (by with_unfolding_all rfl)) (cA (aL fq (pv 5) (pv 1) (by with_unfolding_all rfl))))) (aq (au (i:=5) dA.nd rfl (Or.inl rfl) (pv 4))) aS) ?d6
  case d6=>exact aq (cR (bX PySem.F.plainAttrs_list PySem.F.slot_list_append PySem.F.type_list_append dE (pv 3) (aa (pv 5) ab)))
  case main =>
  have nnp:=jo hp hna
  refine⟨Nat.zero_le _,fun fo hfo=>?_⟩
  have nfp:=hp.ne_new hfo
  have P1:=hp.new (o:=.lst []) hfo
  have K1:=(Kp.refl [p] H).new (o:=.lst []) hfo
  have f1:upd H fo (.lst []) fo=some (.lst (([]:List Str).map V.str)):=ai
  have n1:upd H fo (.lst []) na=some (.lst (ns.map V.str)):=by rw [ag (ax hna hfo)];exact hna
  generalize upd H fo (.lst [])=H1 at P1 K1 f1 n1 ⊢
  refine⟨_,rfl,na,rfl,⟨_,SqL.of n1⟩,fu (K:=K) (xs:=ns.map V.str) (fun i σ H2=>∃(fl:List Str) (g1 g2:Option V),σ=[some (.ref p),some (.ref na),some (.str cM),some (.ref fo),g1,g2]/\Pot H2 p/\Kp [p] H H2/\H2 na=some (.lst (ns.map V.str))/\H2 fo=some (.lst (fl.map V.str))/\fl.length=i/\fl.Nodup/\(∀x∈fl,aJ x)/\∀x∈fl,x∈ns.take i\/x∉ns)
   ⟨[],none,none,rfl,P1,K1,n1,f1,rfl,List.nodup_nil,(fun x hx=>nomatch hx),fun x hx=>nomatch hx⟩ (fun i σ H2 _ q=>by obtain⟨_,_,_,_,_,_,n2,_⟩:=q;exact SqL.of n2) ?_ ?_⟩
  ·rintro i x σ H2 hx ⟨fl,g1,g2,rfl,P2,K2,n2,f2,hlen,hfn,hfp,hft⟩
   rw [List.getElem?_map] at hx
   cases hc:ns[i]? with
   | none=>rw [hc] at hx;cases hx
   | some z =>
    rw [hc] at hx
    cases hx
    have hi:i < ns.length:=(List.getElem?_eq_some_iff.mp hc).1
    refine⟨rfl,_,rfl,p,8,rfl,P2,by decide,by decide,fun r1 H3 a0 a1 P3 K3'=>⟨_,_,rfl,rfl,_,rfl,by omega,by omega,?_⟩⟩
    have K3:=K2.trans K3'
    have n3:=K3'.at nnp n2
    have f3:=K3'.at nfp f2
    refine cv (fits (by omega)) (fun i ys σ H4=>(∃cs:List Nat,cs.length=i/\(∀c∈cs,97<=c/\c<=122)/\ys=cs.map fun c=>V.str ⟨#[c]⟩)/\Pot H4 p/\Kp [p] H3 H4/\∃x,σ=[x,some (.str cM),some (.ref p)])
     ⟨⟨[],rfl,by simp,rfl⟩,P3,Kp.refl _ _,_,rfl⟩ (fun i ys σ H4 _ q=>by obtain⟨⟨cs,rfl,_,rfl⟩,_⟩:=q;simp) ?_ ?_
    ·rintro j ys σ H4 hj ⟨⟨cs,rfl,hcs,rfl⟩,P4,K4,v,rfl⟩
     refine⟨_,rfl,_,rfl,p,26,rfl,P4,by decide,by decide,fun r H5 r0 r1 P5 K5=>.inr (.inr ⟨cM,r,97 + r.toNat,rfl,rfl,gA,dQ (j:=r.toNat) (by omega) (gL (by omega)),⟨cs++[97 + r.toNat],by simp,fun c hc=>?_,by simp⟩,P5,K4.trans K5,_,rfl⟩)⟩
     rcases List.mem_append.mp hc with z | z
     ·exact hcs c z
     ·simp at z
      omega
    rintro ys σ H4 ⟨⟨cs,hcl,hcs,rfl⟩,P4,K4,v,rfl⟩ q hq
    have hmap:(cs.map fun c=>V.str ⟨#[c]⟩)=(cs.map fun c=>(⟨#[c]⟩:Str)).map V.str:=by rw [List.map_map];rfl
    refine⟨Str.ofString "",q,cs.map fun c=>(⟨#[c]⟩:Str),rfl,rfl,SqL.of (by rw [ai,hmap]),?_,?_⟩
    ·have e0:(Str.ofString "").length=0:=by decide
     rw [nI,e0]
     omega
    have hwn:=mB (cs:=cs) (by omega) (by omega) hcs
    generalize Txt.join (Str.ofString "") (cs.map fun c=>(⟨#[c]⟩:Str))=wd at hwn ⊢
    have P5:=P4.new (o:=.lst (cs.map fun c=>V.str ⟨#[c]⟩)) hq
    have K35:=K4.new (o:=.lst (cs.map fun c=>V.str ⟨#[c]⟩)) hq
    generalize upd H4 q (.lst (cs.map fun c=>V.str ⟨#[c]⟩))=H5 at P5 K35 ⊢
    have n5:=K35.at nnp n3
    have f5:=K35.at nfp f3
    have K5:=K3.trans K35
    have hzf:z∉fl:=fun hz=>by
     rcases hft z hz with h | h
     ·have nd:=hnd.sublist (List.take_sublist (i + 1) ns)
      rw [List.take_add_one,hc] at nd
      exact (List.nodup_append.mp nd).2.2 z h z (by simp) rfl
     ·exact h (List.mem_of_getElem? hc)
    have htk:ns.take (i + 1)=ns.take i++[z]:=by rw [List.take_add_one,hc];rfl
    refine⟨_,rfl,_,rfl,fo,fl.map V.str,rfl,.inl (SqL.of f5),rfl,eo fl,_,rfl,?_⟩
    show if inV (.str wd) (fl.map V.str)=true then _ else _
    rw [eL]
    refine aX (fun c=>bP ⟨_,rfl,?p1⟩) (fun c=>⟨_,rfl,_,rfl,na,ns.map V.str,rfl,.inl (SqL.of n5),rfl,eo ns,_,rfl,?p0⟩)
    case' p0 =>
     show if inV (.str wd) (ns.map V.str)=true then _ else _
     rw [eL]
     refine aX (fun d=>⟨_,rfl,?p2⟩) (fun d=>?p3)
    case' p1 =>
     have hW:aJ z/\z∉fl/\(z∈ns.take (i + 1)\/z∉ns):=⟨hnm z (List.mem_of_getElem? hc),hzf,.inl (by rw [htk];simp)⟩
     generalize z=ww at hW ⊢
    case' p2 =>
     have hW:aJ z/\z∉fl/\(z∈ns.take (i + 1)\/z∉ns):=⟨hnm z (List.mem_of_getElem? hc),hzf,.inl (by rw [htk];simp)⟩
     generalize z=ww at hW ⊢
    case' p3 =>
     have hW:aJ wd/\wd∉fl/\(wd∈ns.take (i + 1)\/wd∉ns):=⟨hwn,fun z=>c (decide_eq_true z),.inr fun z=>d (decide_eq_true z)⟩
     generalize wd=ww at hW ⊢
    all_goals
     refine⟨_,rfl,.inl ⟨rfl,_,SqL.of f5⟩,_,rfl,fo,fl.map V.str,_,rfl,rfl,f5,fits (by rw [List.length_map];omega),?_⟩
     refine⟨fl++[ww],_,_,rfl,P5.upd nfp,fun b o e nb=>by rw [ag (ax e hfo)];exact K5 b o e nb,by rw [ag (ax hna hfo)];exact n5,by rw [ai];simp,by simp [hlen],gM hfn hW.2.1,fun x hx=>?_,fun x hx=>?_⟩
     ·rcases List.mem_append.mp hx with q | q
      ·exact hfp x q
      ·rw [List.mem_singleton.mp q];exact hW.1
     ·rcases List.mem_append.mp hx with q | q
      ·rcases hft x q with h | h
       ·exact .inl (by rw [htk];exact List.mem_append_left _ h)
       ·exact .inr h
      ·rw [List.mem_singleton.mp q];exact hW.2.2
  ·rintro σ H2 ⟨fl,g1,g2,rfl,P2,K2,n2,f2,hlen,hfn,hfp,hft⟩
   exact⟨_,rfl,k fo fl H2 P2 f2 hfp hfn (by rw [hlen,List.length_map]) K2⟩
end
section
variable {P:Program}{w:World}{K:PySem.W.Frag}{mg:Str->Option Value}{base:Heap}
noncomputable abbrev N25:List Str:=["_law_pot_here","_law_names","_law_words","_law_way","_law_begin","_law_found"]
theorem dX:aQ N25 ["_law_pot_here","_law_names"] (aF (top 25)):=⟨rfl,rfl,rfl,by decide +kernel,rfl,by decide +kernel,by decide +kernel⟩
theorem nA {f:Addr}{fd:FuncData} (F:Fun K "_law_named" "_law_named" (top 25) f fd) (B:Bl mg) (Ft:Fn P w K mg base 1 "_law_digit" ["_law_pot_here","_law_many"] cz) (Ff:Fn P w K mg base 2 "_law_free" ["_law_pot_here","_law_names"] eC):aH P w K mg base CX0 3 f fd ["_law_pot_here","_law_names"] eC:=by
 refine F.ok dX (fun vs H Q E h=>?_) (fun cdv A outer s H vs Q E hr h=>?_)
 ·obtain⟨p,na,ns,rfl,_⟩:=h
  rfl
 ·obtain⟨p,na,ns,rfl,hp,hna,hn26,hnd,hnm,k⟩:=h
  have hr1:aK 1 _:=hr.mono (by decide)
  refine' ⟨_,ak ?s1 ?r1,?main⟩
  case s1 =>
   refine' au (i:=2) ?nd ?x ?y ?z ?hs ?hf
   case nd=>exact dX.nd
   case x=>exact rfl
   case y=>exact Or.inr rfl
   case hf=>first | exact .inl rfl | exact .inr rfl
   case' z=>refine' bV ?l0
   case l0=>exact cy (cy (cy (cy (cy (cy (cy (cy ab)))))))
   case hs=>kernel_rfl
  case r1=>exact (ak (au (i:=3) dX.nd rfl (Or.inl rfl) (ar Ft hr1 (aa (pv 0) (aa af ab))))
   (ak (aV (aL cZ (pv 3) af (aN _)) (aq (aI (ar Ff hr (aa (pv 0) (aa (pv 1) ab))))) aS)
   (ak (aV (aL dW (pv 3) af (aN _)) (aq (aI (pv 1))) aS)
   (ak (au (i:=4) dX.nd rfl (Or.inr rfl) (ar Ft hr1 (aa (pv 0) (aa af ab))))
   (ak (au (i:=5) dX.nd rfl (Or.inr rfl) (bb (N:=["_law_k","_law_words","_law_begin"]) (ix:=[none,some 2,some 4]) ⟨rfl,rfl,rfl,by decide⟩ rfl
    (bS rfl B.range (aa (aw (gZ rfl) rfl B.min kf (aa (aw bc rfl B.len PySem.boot_len (aa (pv 1) ab)) (aa (av bK af (ar Ft hr1 (aa (pv 0) (aa af ab)))) ab))) ab)) (fun _ _ _ _=>aO 0 (by decide) rfl rfl) (fun _ _ _ _=>a9)
    (fun _ _ _ _=>ay (bN K) (pv 1) (av cW (av bK (pv 2) (pv 0)) af) (fun _ _=>rfl))))
   (aq (aI (cL dM (av jN (pv 5) (bb (N:=["_law_name_here","_law_found"]) (ix:=[none,some 5]) ⟨rfl,rfl,rfl,by decide⟩ rfl (b9 (pv 1)) (fun _ _ _ _=>aO 0 (by decide) rfl rfl) (fun _ _ _ _=>dj (aL (lP K) (pv 0) (pv 1) (by with_unfolding_all rfl))) (fun _ _ _ _=>pv 0))) cP (cN (aw bc rfl B.len PySem.boot_len (aa (pv 1) ab)))))))))))
  case main =>
   refine⟨by show 8<=sizeLine;decide,fun wd hwd=>?_⟩
   have nwp:=hp.ne_new hwd
   have P1:=hp.new (o:=.lst (bu.map V.str)) hwd
   have K1:=(Kp.refl [p] H).new (o:=.lst (bu.map V.str)) hwd
   have w1:upd H wd (.lst (bu.map V.str)) wd=some (.lst (bu.map V.str)):=ai
   have nnp:=jo hp hna
   have n1:upd H wd (.lst (bu.map V.str)) na=some (.lst (ns.map V.str)):=by rw [ag (ax hna hwd)];exact hna
   change e9 _ _ _ _ (upd H wd (.lst (bu.map V.str)))
   generalize upd H wd (.lst (bu.map V.str))=H1 at P1 K1 w1 n1 ⊢
   refine⟨_,rfl,p,4,rfl,P1,by decide,by decide,fun r H2 r0 r1 P2 K2=>⟨_,rfl,rfl,_,rfl,?_⟩⟩
   have K12:=K1.trans K2
   have n2:=K2.at nnp n1
   have w2:=K2.at nwp w1
   refine aX (fun c=>⟨_,rfl,_,rfl,p,na,ns,rfl,P2,n2,hn26,hnd,hnm,fun q ms H3 P3 q3 m1 m2 m3 K3=>k q ms H3 P3 q3 m1 m2 m3 (K12.trans K3)⟩) (fun c0=>?_)
   refine⟨_,rfl,_,_,rfl,rfl,_,rfl,aX (fun c=>⟨_,rfl,k na ns H2 P2 n2 hnm hnd rfl K12⟩) (fun c=>?_)⟩
   refine⟨_,rfl,p,8,rfl,P2,by decide,by decide,fun b H3 b0 b1 P3 K3=>?_⟩
   have K13:=K12.trans K3
   have n3:=K3.at nnp n2
   have w3:=K3.at nwp w2
   refine⟨_,rfl,na,_,rfl,.inl (SqL.of n3),_,rfl,p,6,rfl,P3,by decide,by decide,fun r6 H4 q0 q1 P4 K4=>⟨_,_,rfl,rfl,_,_,rfl,_,rfl,?_,?_,?_⟩⟩
   ·split <;> omega
   ·rw [List.length_map];split <;> omega
   have K14:=K13.trans K4
   have n4:=K4.at nnp n3
   have w4:=K4.at nwp w3
   obtain⟨bn,rfl⟩:=Int.eq_ofNat_of_zero_le b0
   have hcn:∃c:Nat,(if (1 + r6:Int) < ((ns.map V.str).length:Int) then 1 + r6 else ((ns.map V.str).length:Int)).toNat=c/\c<=ns.length/\c<=8:=⟨_,rfl,by rw [List.length_map];split <;> omega,by rw [List.length_map];split <;> omega⟩
   obtain⟨cn,ecn,hc1,hc2⟩:=hcn
   rw [ecn]
   refine cv (fits (by omega)) (fun i ys σ H5=>ys=(rot bn i).map V.str/\H5=H4/\∃x,σ=[x,some (.ref wd),some (.int bn)]) ⟨rfl,rfl,_,rfl⟩ (fun i ys σ H5 _ z=>by rw [z.1,List.length_map,fJ];exact Nat.le_refl _) ?_ ?_
   ·rintro i ys σ H5 hi ⟨rfl,rfl,x,rfl⟩
    refine⟨_,rfl,_,rfl,_,rfl,_,_,rfl,rfl,_,_,rfl,rfl,by show (0:Int) < 8;decide,?_⟩
    refine aB (j:=(bn + i) % 8) (.inl (SqL.of w4)) (by push_cast;rw [Int.zero_add]) (by rw [List.getElem?_map,iU];rfl) ⟨?_,rfl,_,rfl⟩
    rw [fz];simp
   rintro ys σ H5 ⟨rfl,rfl,x,rfl⟩ fo hfo
   have nfp:=P4.ne_new hfo
   have P6:=P4.new (o:=.lst ((rot bn cn).map V.str)) hfo
   have K6:=K14.new (o:=.lst ((rot bn cn).map V.str)) hfo
   have f6:upd H5 fo (.lst ((rot bn cn).map V.str)) fo=some (.lst ((rot bn cn).map V.str)):=ai
   have n6:upd H5 fo (.lst ((rot bn cn).map V.str)) na=some (.lst (ns.map V.str)):=by rw [ag (ax n4 hfo)];exact n4
   generalize upd H5 fo (.lst ((rot bn cn).map V.str))=H6 at P6 K6 f6 n6 ⊢
   refine⟨_,rfl,_,rfl,na,rfl,⟨_,SqL.of n6⟩,ij (xs:=ns.map V.str) (fits (by rw [List.length_map];omega)) (fun i ys σ H7=>ys=((ns.take i).filter fun x=>!decide (x∈rot bn cn)).map V.str/\H7=H6/\∃x,σ=[x,some (.ref fo)]) ⟨rfl,rfl,_,rfl⟩
    (fun i ys σ H7 _ z=>⟨by rw [z.1,List.length_map];exact Nat.le_trans (List.length_filter_le _ _) (by rw [List.length_take];omega),by rw [z.2.1];exact SqL.of n6⟩) ?_ ?_⟩
   ·rintro i y ys σ H7 hy ⟨rfl,rfl,x,rfl⟩
    rw [List.getElem?_map] at hy
    cases hc:ns[i]? with
    | none=>rw [hc] at hy;cases hy
    | some z =>
     rw [hc] at hy
     cases hy
     have tf:=dC (fun x:Str=>!decide (x∈rot bn cn)) ns i z hc
     refine⟨_,rfl,_,rfl,fo,_,rfl,.inl (SqL.of f6),rfl,eo _,_,rfl,?_⟩
     rw [eL]
     show if (!decide (z∈rot bn cn))=true then _ else _
     refine aX (fun c=>⟨_,rfl,?_,rfl,_,rfl⟩) (fun c=>⟨?_,rfl,_,rfl⟩)
     ·rw [tf,c];simp
     ·rw [tf];simp only [Bool.not_eq_true] at c;rw [c];simp
   rintro ys σ H7 ⟨rfl,rfl,x,rfl⟩ l8 hl8
   rw [take_all ns (by simp)]
   have P8:=P6.new (o:=.lst ((ns.filter fun x=>!decide (x∈rot bn cn)).map V.str)) hl8
   have K8:=K6.new (o:=.lst ((ns.filter fun x=>!decide (x∈rot bn cn)).map V.str)) hl8
   have l9:upd H7 l8 (.lst ((ns.filter fun x=>!decide (x∈rot bn cn)).map V.str)) l8=some (.lst ((ns.filter fun x=>!decide (x∈rot bn cn)).map V.str)):=ai
   have f9:upd H7 l8 (.lst ((ns.filter fun x=>!decide (x∈rot bn cn)).map V.str)) fo=some (.lst ((rot bn cn).map V.str)):=by rw [ag (ax f6 hl8)];exact f6
   have n9:upd H7 l8 (.lst ((ns.filter fun x=>!decide (x∈rot bn cn)).map V.str)) na=some (.lst (ns.map V.str)):=by rw [ag (ax n6 hl8)];exact n6
   generalize upd H7 l8 (.lst ((ns.filter fun x=>!decide (x∈rot bn cn)).map V.str))=H9 at P8 K8 l9 f9 n9 ⊢
   have hfl:=List.length_filter_le (fun x=>!decide (x∈rot bn cn)) ns
   have hrl:=fJ bn cn
   refine⟨fo,l8,_,_,rfl,rfl,f9,l9,by rw [List.length_map,List.length_map,sizeLine_eq];omega,fun ct hct=>?_⟩
   have P10:=P8.new (o:=.lst ((rot bn cn).map V.str++(ns.filter fun x=>!decide (x∈rot bn cn)).map V.str)) hct
   have K10:=K8.new (o:=.lst ((rot bn cn).map V.str++(ns.filter fun x=>!decide (x∈rot bn cn)).map V.str)) hct
   have c10:upd H9 ct (.lst ((rot bn cn).map V.str++(ns.filter fun x=>!decide (x∈rot bn cn)).map V.str)) ct=some (.lst ((rot bn cn).map V.str++(ns.filter fun x=>!decide (x∈rot bn cn)).map V.str)):=ai
   have n10:upd H9 ct (.lst ((rot bn cn).map V.str++(ns.filter fun x=>!decide (x∈rot bn cn)).map V.str)) na=some (.lst (ns.map V.str)):=by rw [ag (ax n9 hct)];exact n9
   generalize upd H9 ct (.lst ((rot bn cn).map V.str++(ns.filter fun x=>!decide (x∈rot bn cn)).map V.str))=H10 at P10 K10 c10 n10 ⊢
   refine⟨_,rfl,na,_,rfl,.inl (SqL.of n10),_,rfl,ct,_,rfl,SqL.of c10,fun q hq=>?_⟩
   have hlen:(cm (rot bn cn) ns).length=ns.length:=nk (by rw [hrl];exact hc1) hnd
   have hle:(ns.map V.str).length<=((rot bn cn).map V.str++(ns.filter fun x=>!decide (x∈rot bn cn)).map V.str).length:=by
    unfold cm at hlen
    rw [List.length_take] at hlen
    rw [List.length_map,<- List.map_append,List.length_map]
    omega
   have ec:bw ((rot bn cn).map V.str++(ns.filter fun x=>!decide (x∈rot bn cn)).map V.str) none (some ((ns.map V.str).length:Int))=(cm (rot bn cn) ns).map V.str:=by
    rw [pX _ hle,<- List.map_append,<- List.map_take,List.length_map]
    rfl
   rw [ec]
   exact k q (cm (rot bn cn) ns) _ (P10.new hq) ai (mm (mM bn cn) hnm) (lF (ib bn hc2) hnd) hlen (K10.new hq)
end
theorem ni {K:PySem.W.Frag}{g:TG}{te:TE}{σ':St}{fin:List V->Hp->Prop}{H1:Hp}{a b:Addr}{xs ys:List V} (hn:min xs.length ys.length < sizeLine) (Pv:Nat->List V->St->Hp->Prop) (h0:Pv 0 [] σ' H1)
  (hl:∀i zs σ H,i<=min xs.length ys.length->Pv i zs σ H->zs.length<=i/\SqL K H a xs/\SqL K H b ys)
  (hs:∀i x y zs σ H T,xs[i]?=some x->ys[i]?=some y->Pv i zs σ H->H T=none->g (.ref T) σ (upd H T (.tup [x,y])) fun σ2 H2=>te σ2 H2 (fun v H4=>Pv (i + 1) (zs++[v]) σ2 H4))
  (hd:∀zs σ H,Pv (min xs.length ys.length) zs σ H->fin zs H):LcW (Itz K a b) g be te σ' fin H1 :=
 jk hn Pv h0 hl (fun i x y zs σ H T hx hy p hT=>by
  have e:(fun σ2 H2=>be σ2 H2 fun b H3=>if b=true then te σ2 H3 (fun v H4=>Pv (i + 1) (zs++[v]) σ2 H4) else Pv (i + 1) zs σ2 H3)=fun σ2 H2=>te σ2 H2 (fun v H4=>Pv (i + 1) (zs++[v]) σ2 H4):=by
   funext σ2 H2
   show (if true=true then te σ2 H2 (fun v H4=>Pv (i + 1) (zs++[v]) σ2 H4) else Pv (i + 1) zs σ2 H2)=_
   rw [if_pos rfl]
  rw [e]
  exact hs i x y zs σ H T hx hy p hT) hd
section
variable {P:Program}{w:World}{K:PySem.W.Frag}{mg:Str->Option Value}{base:Heap}
noncomputable def jE:Sp:=fun vs H Q _=>∃(p:Addr),vs=[.ref p,.int 8,.int 3,.int 11]/\Pot H p /\
 ∀(v u pa ra:Addr) (root:Str) (ps:List Str) (rs:List (Addr×Row)) (H':Hp),Pot H' p->H' v=some (.tup [.ref u,.str root])->cE H' u pa ra ps rs->Good ps (rs.map (·.2))->ps.length<=8->rs.length<=26->root∈ps->Kp [p] H H'->Q (.ref v) H'
noncomputable abbrev N26:List Str:=["_law_pot_here","_law_most_places","_law_most_trees","_law_most_more","_law_places","_law_root","_law_pairs","_law_turn","_law_begin","_law_end","_law_names","_law_ties"]
theorem bM:aQ N26 ["_law_pot_here","_law_most_places","_law_most_trees","_law_most_more"] (aF (top 26)):=⟨rfl,rfl,rfl,by decide +kernel,rfl,by decide +kernel,by decide +kernel⟩
theorem pI {f:Addr}{fd:FuncData} (F:Fun K "_law_web" "_law_web" (top 26) f fd) (B:Bl mg) (Ft:Fn P w K mg base 1 "_law_digit" ["_law_pot_here","_law_many"] cz) (Fn':Fn P w K mg base 2 "_law_name" ["_law_pot_here","_law_k"] je)
  (Fd:Fn P w K mg base 3 "_law_named" ["_law_pot_here","_law_names"] eC) (Fe:Fn P w K mg base 2 "_law_grown" ["_law_pot_here","_law_places","_law_root"] jv):aH P w K mg base CX0 4 f fd ["_law_pot_here","_law_most_places","_law_most_trees","_law_most_more"] jE:=by
 refine F.ok bM (fun vs H Q E h=>?_) (fun cdv A outer s H vs Q E hr h=>?_)
 ·obtain⟨p,rfl,_⟩:=h
  rfl
 ·obtain⟨p,rfl,hp,k⟩:=h
  have hr1:aK 1 _:=hr.mono (by decide)
  have hr2:aK 2 _:=hr.mono (by decide)
  refine⟨_,ak (au (i:=4) bM.nd rfl (Or.inl rfl) (aw kX rfl B.sorted fA (aa (ar Fd hr (aa (pv 0) (aa (bb (N:=["_law_k","_law_pot_here"]) (ix:=[none,some 0]) ⟨rfl,rfl,rfl,by decide⟩ rfl
     (bS rfl B.range (aa (av bK af (ar Ft hr1 (aa (pv 0) (aa (pv 1) ab)))) ab)) (fun _ _ _ _=>aO 0 (by decide) rfl rfl) (fun _ _ _ _=>a9)
     (fun _ _ _ _=>ar Fn' hr2 (aa (pv 1) (aa (pv 0) ab)))) ab))) ab)))
   (ak (au (i:=5) bM.nd rfl (Or.inl rfl) (ay aG (pv 4) (ar Ft hr1 (aa (pv 0) (aa (aw bc rfl B.len PySem.boot_len (aa (pv 4) ab)) ab))) (fun _ _=>rfl)))
   (ak (au (i:=6) bM.nd rfl (Or.inl rfl) (bV ab))
   (ak (bU PassesOwn.never rfl (bS rfl B.range (aa (ar Ft hr1 (aa (pv 0) (aa (av bK (pv 2) af) ab))) ab)) (aZ (i:=7) bM.nd rfl (Or.inl rfl))
    (aq (au (i:=6) bM.nd rfl (Or.inl rfl) (av jN (pv 6) (ar Fe hr2 (aa (pv 0) (aa (pv 4) (aa (pv 5) ab))))))))
   (ak (bU PassesOwn.never rfl (bS rfl B.range (aa (ar Ft hr1 (aa (pv 0) (aa (av bK (pv 3) af) ab))) ab)) (aZ (i:=7) bM.nd rfl (Or.inl rfl))
    (ak (au (i:=8) bM.nd rfl (Or.inl rfl) (ay aG (pv 4) (ar Ft hr1 (aa (pv 0) (aa (aw bc rfl B.len PySem.boot_len (aa (pv 4) ab)) ab))) (fun _ _=>rfl)))
    (ak (au (i:=9) bM.nd rfl (Or.inl rfl) (ay aG (pv 4) (ar Ft hr1 (aa (pv 0) (aa (aw bc rfl B.len PySem.boot_len (aa (pv 4) ab)) ab))) (fun _ _=>rfl)))
    (aq (aV (aL bv (pv 8) (pv 9) (aN _)) (aq (cR (bX PySem.F.plainAttrs_list PySem.F.slot_list_append PySem.F.type_list_append dE (pv 6) (aa (ce (aa (pv 8) (aa (pv 9) ab))) ab)))) aS)))))
   (ak (au (i:=6) bM.nd rfl (Or.inl rfl) (cL dM (pv 6) cP (cN af)))
   (ak (au (i:=10) bM.nd rfl (Or.inl rfl) (ar Fd hr (aa (pv 0) (aa (bb (N:=["_law_k","_law_pot_here"]) (ix:=[none,some 0]) ⟨rfl,rfl,rfl,by decide⟩ rfl
     (bS rfl B.range (aa (aw bc rfl B.len PySem.boot_len (aa (pv 6) ab)) ab)) (fun _ _ _ _=>aO 0 (by decide) rfl rfl) (fun _ _ _ _=>a9)
     (fun _ _ _ _=>ar Fn' hr2 (aa (pv 1) (aa (pv 0) ab)))) ab))))
   (ak (au (i:=11) bM.nd rfl (Or.inl rfl) (aw kZ rfl B.sorted fA (aa (bb (N:=["_law_name_here","_law_pair"]) (ix:=[none,none]) ⟨rfl,rfl,rfl,by decide⟩ rfl (fT rfl B.zip (aa (pv 10) (aa (pv 6) ab)))
     (fun _ _ _ _=>dI K rfl (n:=2) (aR (aO 0 (by decide) rfl rfl) (aR (aO 1 (by decide) rfl rfl) bH))) (fun _ _ _ _=>a9)
     (fun _ _ _ _=>ce (aa (pv 0) (aa (ay (bN K) (pv 1) af (fun _ _=>rfl)) (aa (ay (bN K) (pv 1) af (fun _ _=>rfl)) ab))))) ab)))
   (aq (aI (ce (aa (ce (aa (bT cJ rfl B.tuple bB (aa (pv 4) ab)) (aa (bT cJ rfl B.tuple bB (aa (pv 11) ab)) ab))) (aa (pv 5) ab)))))))))))),?_⟩
  refine⟨_,rfl,_,rfl,_,rfl,p,8,rfl,hp,by decide,by decide,fun r1 H1 a0 a1 P1 K1=>⟨_,_,rfl,rfl,_,rfl,by omega,by omega,?_⟩⟩
  refine cv (fits (by omega)) (fun j ys σ H2=>(∃ns:List Str,ns.length=j/\Nms ns/\ys=ns.map V.str)/\Pot H2 p/\Kp [p] H H2/\∃x,σ=[x,some (.ref p)])
   ⟨⟨[],rfl,fun j x hj=>by simp at hj,rfl⟩,P1,K1,_,rfl⟩ (fun j ys σ H2 _ q=>by obtain⟨⟨ns,rfl,_,rfl⟩,_⟩:=q;simp) ?_ ?_
  ·rintro j ys σ H2 hj ⟨⟨ns,rfl,D,rfl⟩,P2,K2,x,rfl⟩
   refine⟨_,rfl,_,rfl,p,ns.length,by simp,P2,by omega,fun x H3 hx P3 K3=>⟨⟨ns++[x],by simp,D.add hx,by simp⟩,P3,K2.trans K3,_,rfl⟩⟩
  rintro ys σ H2 ⟨⟨ns,nlen,D,rfl⟩,P2,K2,x,rfl⟩ pl0 hpl0
  have nm7:ns.length<=8:=by omega
  have nm1:1<=ns.length:=by omega
  have P3:=P2.new (o:=.lst (ns.map V.str)) hpl0
  have K3:=K2.new (o:=.lst (ns.map V.str)) hpl0
  have L3:upd H2 pl0 (.lst (ns.map V.str)) pl0=some (.lst (ns.map V.str)):=ai
  generalize upd H2 pl0 (.lst (ns.map V.str))=H3 at P3 K3 L3 ⊢
  refine⟨p,pl0,ns,rfl,P3,L3,by omega,D.nodup,D.name (by omega),fun pm0 ms H4 P4 L4 mnm mnd mlen K34=>?_⟩
  have K4:=K3.trans K34
  refine⟨pm0,ms,rfl,SqL.of L4,by omega,fun ps pl hpm hso hpl=>?_⟩
  have pnd:ps.Nodup:=hpm.nodup_iff.mpr mnd
  have plen:ps.length=ns.length:=hpm.length_eq.trans mlen
  have pnm:∀x∈ps,aJ x:=fun x hx=>mnm x (hpm.mem_iff.mp hx)
  have psw:=lS hso pnd
  have npl:=P4.ne_new hpl
  have P5:=P4.new (o:=.lst (ps.map V.str)) hpl
  have K5:=K4.new (o:=.lst (ps.map V.str)) hpl
  have L5:upd H4 pl (.lst (ps.map V.str)) pl=some (.lst (ps.map V.str)):=ai
  generalize upd H4 pl (.lst (ps.map V.str))=H5 at P5 K5 L5 ⊢
  have hpsz:(ps.map V.str).length=ps.length:=by simp
  refine⟨_,rfl,_,rfl,_,rfl,pl,_,rfl,.inl (SqL.of L5),p,_,rfl,P5,by omega,by omega,fun r3 H6 c0 c1 P6 K6'=>?_⟩
  have K6:=K5.trans K6'
  have L6:=K6'.at npl L5
  have hr3:r3.toNat < ps.length:=by omega
  refine aB (j:=r3.toNat) (.inl (SqL.of L6)) (by omega) (strAt hr3) ?_
  have hroot:ps[r3.toNat]∈ps:=List.getElem_mem hr3
  generalize ps[r3.toNat]=root at hroot ⊢
  refine⟨Nat.zero_le _,fun fo hfo=>?_⟩
  have nfp:=P6.ne_new hfo
  have nfl:fo≠pl:=(ax L6 hfo).symm
  have hfo0:=K6.free1 P6 hfo
  have P7:=P6.new (o:=.lst []) hfo
  have K7:=K6.new (o:=.lst []) hfo
  have L7:upd H6 fo (.lst []) pl=some (.lst (ps.map V.str)):=by rw [ag nfl.symm];exact L6
  have A7:bA (upd H6 fo (.lst [])) fo []:=⟨ai,by simp⟩
  generalize upd H6 fo (.lst [])=H7 at P7 K7 L7 A7 ⊢
  refine⟨_,rfl,_,rfl,_,_,rfl,rfl,p,_,rfl,P7,by decide,by decide,fun r4 H8 d0 d1 P8 K8'=>⟨_,rfl,by omega,by omega,?_⟩⟩
  refine fm (fun i σ Hx=>∃(fo:Addr) (les:List Le),(∃g g8 g9,σ=[some (.ref p),some (.int 8),some (.int 3),some (.int 11),some (.ref pl),some (.str root),some (.ref fo),g,g8,g9,none,none])/\fo≠p/\fo≠pl/\H fo=none/\Pot Hx p/\Kp [p] H Hx/\Hx pl=some (.lst (ps.map V.str))/\bA Hx fo les/\LeP ps les/\les.length<=8 * i)
   ⟨fo,[],⟨_,_,_,rfl⟩,nfp,nfl,hfo0,P8,K7.trans K8',K8'.at npl L7,A7.kp P7 nfp K8',(by intro x hx;simp at hx),Nat.le_refl _⟩ ?_ ?_
  ·rintro i σ Hx hi ⟨fo,les,⟨g,g8,g9,rfl⟩,nfp,nfl,hfo0,Px,Kx,Lx,Ax,hle,hlen⟩
   refine⟨_,rfl,_,rfl,_,rfl,_,rfl,p,pl,root,ps,rfl,Px,Lx,hroot,pnd,pnm,by omega,fun q les' Hy Py Ay hle' hl7 hq0 Ky=>?_⟩
   have Ay0:=Ax.kp Px nfp Ky
   have Ly:=Ky.at npl Lx
   refine⟨fo,q,aT les,aT les',rfl,rfl,Ay0.l,Ay.l,Nat.le_of_lt (fits (by simp;omega)),fun c hc=>?_⟩
   have sy:=ao (o:=.lst (aT les++aT les')) (ae.refl Hy) hc
   have K0:=Kx.trans Ky
   refine⟨c,les++les',⟨_,_,_,rfl⟩,Py.ne_new hc,(ax Ly hc).symm,K0.free1 Py hc,Py.new hc,K0.new hc,sy _ _ Ly,⟨by rw [ai];simp [aT],fun x hx=>?_⟩,fun x hx=>?_,by simp;omega⟩
   ·rcases List.mem_append.mp hx with z | z
    ·exact sy _ _ (Ay0.e x z)
    ·exact sy _ _ (Ay.e x z)
   ·rcases List.mem_append.mp hx with z | z
    ·exact hle x z
    ·exact hle' x z
  rintro σ Hx ⟨fo,les,⟨g,g8,g9,rfl⟩,nfp,nfl,hfo0,Px,Kx,Lx,Ax,hle,hlen⟩
  have hl18:les.length<=24:=by omega
  clear hlen A7 L7 K7 P7 d0 d1 P8 K8' H8 H7 r4
  refine⟨_,rfl,_,rfl,_,_,rfl,rfl,p,_,rfl,Px,by decide,by decide,fun r6 H9 f0 f1 P9 K9'=>⟨_,rfl,by omega,by omega,?_⟩⟩
  refine fm (fun i σ Hx=>∃(les:List Le),(∃g g8 g9,σ=[some (.ref p),some (.int 8),some (.int 3),some (.int 11),some (.ref pl),some (.str root),some (.ref fo),g,g8,g9,none,none])/\Pot Hx p/\Kp [p] H Hx/\Hx pl=some (.lst (ps.map V.str))/\bA Hx fo les/\LeP ps les/\les.length<=24 + i)
   ⟨les,⟨_,_,_,rfl⟩,P9,Kx.trans K9',K9'.at npl Lx,Ax.kp Px nfp K9',hle,by omega⟩ ?_ ?_
  ·rintro i σ Hy hi ⟨les',⟨g,g8,g9,rfl⟩,Py,Ky,Ly,Ay,hle,hlen⟩
   refine⟨_,rfl,_,rfl,_,rfl,pl,_,rfl,.inl (SqL.of Ly),p,_,rfl,Py,by omega,by omega,fun ra H10 a0 a1 P10 K10=>?_⟩
   have A10:=Ay.kp Py nfp K10
   have L10:=K10.at npl Ly
   have hra:ra.toNat < ps.length:=by omega
   refine aB (j:=ra.toNat) (.inl (SqL.of L10)) (by omega) (strAt hra) ?_
   have hma:=List.getElem_mem hra
   generalize ps[ra.toNat]=sa at hma ⊢
   refine⟨_,rfl,_,rfl,_,rfl,pl,_,rfl,.inl (SqL.of L10),p,_,rfl,P10,by omega,by omega,fun rb H11 b0 b1 P11 K11=>?_⟩
   have A11:=A10.kp P10 nfp K11
   have L11:=K11.at npl L10
   have hrb:rb.toNat < ps.length:=by omega
   refine aB (j:=rb.toNat) (.inl (SqL.of L11)) (by omega) (strAt hrb) ?_
   have hmb:=List.getElem_mem hrb
   generalize ps[rb.toNat]=sbb at hmb ⊢
   have K011:=Ky.trans (K10.trans K11)
   refine⟨_,rfl,_,rfl,rfl,_,rfl,aX (fun c=>?_) (fun c=>⟨les',⟨_,_,_,rfl⟩,P11,K011,L11,A11,hle,by omega⟩)⟩
   have hab:sa≠sbb:=fun e=>by subst e;simp at c
   refine⟨_,rfl,.inl ⟨rfl,_,SqL.of A11.l⟩,_,rfl,_,rfl,by show 2<=sizeLine;decide,fun n hn=>?_⟩
   have sz:=ao (o:=.tup [.str sa,.str sbb]) (ae.refl H11) hn
   have nz:upd H11 n (.tup [.str sa,.str sbb]) n=some (.tup [.str sa,.str sbb]):=ai
   have P12:=P11.new (o:=.tup [.str sa,.str sbb]) hn
   have K12:=K011.new (o:=.tup [.str sa,.str sbb]) hn
   generalize upd H11 n (.tup [.str sa,.str sbb])=H12 at sz nz P12 K12 ⊢
   have A12:=A11.same sz
   have L12:=sz _ _ L11
   refine⟨fo,aT les',.ref n,rfl,rfl,A12.l,fits (by simp;omega),?_⟩
   refine⟨les'++[(n,sa,sbb)],⟨_,_,_,rfl⟩,P12.upd nfp,K12.upd0 hfo0,by rw [ag nfl.symm];exact L12,⟨by rw [ai];simp [aT],fun x hx=>?_⟩,fun x hx=>?_,by simp;omega⟩
   ·rcases List.mem_append.mp hx with q | q
    ·rw [ag (tup_ne (A12.e x q) A12.l)];exact A12.e x q
    ·have e:x=(n,sa,sbb):=by simpa using q
     subst e
     show upd H12 fo _ n=_
     rw [ag (tup_ne nz A12.l)];exact nz
   ·rcases List.mem_append.mp hx with q | q
    ·exact hle x q
    ·have e:x=(n,sa,sbb):=by simpa using q
     subst e;exact⟨hma,hmb,hab⟩
  rintro σ H9 ⟨les,⟨g,g8,g9,rfl⟩,P9,K9,L9,A9,hle9,hl9⟩
  refine⟨_,rfl,_,rfl,fo,aT les,rfl,SqL.of A9.l,fun c hc=>?_⟩
  rw [qI]
  have sc:=ao (o:=.lst ((aT les).take 26)) (ae.refl H9) hc
  have P10:=P9.new (o:=.lst ((aT les).take 26)) hc
  have K10:=K9.new (o:=.lst ((aT les).take 26)) hc
  have ncp:=P9.ne_new hc
  have c10:upd H9 c (.lst ((aT les).take 26)) c=some (.lst (aT (les.take 26))):=by rw [ai];unfold aT;rw [List.map_take]
  generalize upd H9 c (.lst ((aT les).take 26))=H10 at sc P10 K10 c10 ⊢
  have A10:=A9.same sc
  have L10:=sc _ _ L9
  have hle10:∀x∈les.take 26,x∈les:=fun x hx=>List.mem_of_mem_take hx
  have ht26:(les.take 26).length<=26:=by rw [List.length_take];omega
  have Ac:bA H10 c (les.take 26):=⟨c10,fun x hx=>A10.e x (hle10 x hx)⟩
  have hlc:LeP ps (les.take 26):=fun x hx=>hle9 x (hle10 x hx)
  clear hle10 hle9 A9 A10 hl9
  generalize les.take 26=lc at c10 ht26 Ac hlc
  have hlcl:(aT lc).length=lc.length:=by simp
  refine⟨_,rfl,_,rfl,c,_,rfl,.inl (SqL.of Ac.l),_,rfl,by omega,by omega,?_⟩
  refine cv (fits (by omega)) (fun j ys σ H2=>(∃ns:List Str,ns.length=j/\Nms ns/\ys=ns.map V.str)/\Pot H2 p/\Kp [p] H10 H2/\∃x,σ=[x,some (.ref p)])
   ⟨⟨[],rfl,fun j x hj=>by simp at hj,rfl⟩,P10,Kp.refl _ _,_,rfl⟩ (fun j ys σ H2 _ q=>by obtain⟨⟨ns,rfl,_,rfl⟩,_⟩:=q;simp) ?_ ?_
  ·rintro j ys σ H2 hj ⟨⟨ns,rfl,D,rfl⟩,P2,K2,x,rfl⟩
   refine⟨_,rfl,_,rfl,p,ns.length,by simp,P2,by omega,fun x H3 hx P3 K3=>⟨⟨ns++[x],by simp,D.add hx,by simp⟩,P3,K2.trans K3,_,rfl⟩⟩
  rintro ys σ Ha ⟨⟨tn,tnl,Dn,rfl⟩,Pa,Ka,x,rfl⟩ tl0 htl0
  have tn26:tn.length<=26:=by omega
  have Pb:=Pa.new (o:=.lst (tn.map V.str)) htl0
  have Kb:=Ka.new (o:=.lst (tn.map V.str)) htl0
  have Lb:upd Ha tl0 (.lst (tn.map V.str)) tl0=some (.lst (tn.map V.str)):=ai
  generalize upd Ha tl0 (.lst (tn.map V.str))=Hb at Pb Kb Lb ⊢
  refine⟨p,tl0,tn,rfl,Pb,Lb,tn26,Dn.nodup,Dn.name tn26,fun tc cn Hc Pc Lc cnm cnd clen Kbc=>?_⟩
  have Kc:=Kb.trans Kbc
  have cc:=Kc.at ncp c10
  have Acc:bA Hc c lc:=Ac.kp P10 ncp Kc
  have hcl:cn.length=lc.length:=by omega
  refine⟨_,rfl,_,rfl,tc,c,_,_,rfl,SqL.of Lc,SqL.of cc,?_⟩
  refine ni (xs:=cn.map V.str) (ys:=aT lc) (fits (by simp;omega)) (fun i zs σ H2=>(∃rr:List (Addr×Row),zs=aM rr/\(∀r∈rr,dS H2 r.1 r.2)/\nms rr=cn.take i/\(∀r∈rr,r.2.2.1∈ps/\r.2.2.2∈ps/\r.2.2.1≠r.2.2.2))/\ae Hc H2/\∃g1 g2,σ=[g1,g2])
   ⟨⟨[],rfl,by simp,rfl,by simp⟩,ae.refl _,_,_,rfl⟩ (fun i zs σ H2 hi q=>?_) ?_ ?_
  ·obtain⟨⟨rr,rfl,_,e,_⟩,s2,_⟩:=q
   have:=congrArg List.length e
   rw [nms,List.length_map,List.length_take] at this
   exact⟨by simp [this];omega,SqL.of (s2 _ _ Lc),SqL.of (s2 _ _ cc)⟩
  ·rintro i x y zs σ H2 T hx hy ⟨⟨rr,rfl,Ra,e,Ro⟩,s2,g1,g2,rfl⟩ hT
   rw [List.getElem?_map] at hx
   obtain⟨pr,hpr,rfl⟩:=o9 hy
   cases hcc:cn[i]? with
   | none=>rw [hcc] at hx;cases hx
   | some t =>
    rw [hcc] at hx
    cases hx
    have hpm':=List.mem_of_getElem? hpr
    obtain⟨o1,o2,o3⟩:=hlc pr hpm'
    have s3:=ao (o:=.tup [.str t,.ref pr.1]) s2 hT
    have s23:=ao (o:=.tup [.str t,.ref pr.1]) (ae.refl H2) hT
    have pr3:=s3 _ _ (Acc.e pr hpm')
    refine⟨T,_,rfl,SqT.of ai,rfl,_,_,rfl,_,_,rfl,rfl,?_⟩
    refine⟨_,rfl,_,rfl,aB (j:=0) (.inr (SqT.of pr3)) rfl rfl ⟨_,rfl,aB (j:=1) (.inr (SqT.of pr3)) rfl rfl ⟨by show 3<=sizeLine;decide,fun n hn=>?_⟩⟩⟩
    have s4:=ao (o:=.tup [.str t,.str pr.2.1,.str pr.2.2]) s3 hn
    have s24:=ao (o:=.tup [.str t,.str pr.2.1,.str pr.2.2]) s23 hn
    refine⟨⟨rr++[(n,(t,pr.2.1,pr.2.2))],by simp [aM],fun r hr=>?_,?_,fun r hr=>?_⟩,s4,_,_,rfl⟩
    ·rcases List.mem_append.mp hr with z | z
     ·exact s24 _ _ (Ra r z)
     ·have e':r=(n,(t,pr.2.1,pr.2.2)):=by simpa using z
      subst e';exact ai
    ·rw [nms,List.map_append]
     show nms rr++[t]=_
     rw [e,List.take_add_one,hcc]
     rfl
    ·rcases List.mem_append.mp hr with z | z
     ·exact Ro r z
     ·have e':r=(n,(t,pr.2.1,pr.2.2)):=by simpa using z
      subst e';exact⟨o1,o2,o3⟩
  rintro zs σ H11 ⟨⟨rr,rfl,Ra,enm,Ro⟩,s11,g1,g2,rfl⟩ rw hrw
  have en:nms rr=cn:=by rw [enm,take_all cn (by simp;omega)]
  have el:rr.length=lc.length:=by rw [<- hcl,<- en];simp
  have P11:Pot H11 p:=Pc.keep fun o e=>s11 _ _ e
  have K11:Kp [p] H10 H11:=Kc.of_same s11
  have D':(nms rr).Nodup:=by rw [en];exact cnd
  have s10:=ao (o:=.lst (aM rr)) (ae.refl H11) hrw
  have Ra10:∀r∈rr,dS (upd H11 rw (.lst (aM rr))) r.1 r.2:=fun r hr=>s10 _ _ (Ra r hr)
  have w10:upd H11 rw (.lst (aM rr)) rw=some (.lst (aM rr)):=ai
  have P12:=P11.new (o:=.lst (aM rr)) hrw
  have K12:=(K10.trans K11).new (o:=.lst (aM rr)) hrw
  have L12:upd H11 rw (.lst (aM rr)) pl=some (.lst (ps.map V.str)):=s10 _ _ (K11.at npl L10)
  generalize upd H11 rw (.lst (aM rr))=H12 at s10 Ra10 w10 P12 K12 L12 ⊢
  refine⟨rw,rr.map fun r=>(r.1,r.2.1),rfl,.inl (SqL.of (by rw [iT];exact w10)),fun y hy=>?_,by rw [List.length_map];omega,?_,fun rs1 q2 hpm2 hpw hq2=>?_⟩
  ·obtain⟨x,hx,rfl⟩:=List.mem_map.mp hy
   exact⟨_,Ra10 x hx⟩
  ·rw [List.map_map]
   exact D'
  obtain⟨rs',hp2,e2'⟩:=gY (fun r:Addr×Row=>(r.1,r.2.1)) rs1 _ hpm2
  subst e2'
  rw [iT]
  have u0:=ao (o:=.lst (aM rs')) (ae.refl H12) hq2
  have q13:upd H12 q2 (.lst (aM rs')) q2=some (.lst (aM rs')):=ai
  generalize upd H12 q2 (.lst (aM rs'))=H13 at u0 q13 ⊢
  refine⟨_,rfl,pl,_,rfl,.inl ⟨SqL.of (u0 _ _ L12),fun pa hpa=>?_⟩⟩
  have u1:=ao (o:=.tup (ps.map V.str)) (ae.refl H13) hpa
  have a14:upd H13 pa (.tup (ps.map V.str)) pa=some (.tup (ps.map V.str)):=ai
  generalize upd H13 pa (.tup (ps.map V.str))=H14 at u1 a14 ⊢
  refine⟨_,rfl,q2,_,rfl,.inl ⟨SqL.of (u1 _ _ q13),fun ra hra=>?_⟩⟩
  have u2:=ao (o:=.tup (aM rs')) (ae.refl H14) hra
  have a15:upd H14 ra (.tup (aM rs')) ra=some (.tup (aM rs')):=ai
  generalize upd H14 ra (.tup (aM rs'))=H15 at u2 a15 ⊢
  refine⟨by show 2<=sizeLine;decide,fun u hu=>?_⟩
  have u3:=ao (o:=.tup [.ref pa,.ref ra]) (ae.refl H15) hu
  have a16:upd H15 u (.tup [.ref pa,.ref ra]) u=some (.tup [.ref pa,.ref ra]):=ai
  generalize upd H15 u (.tup [.ref pa,.ref ra])=H16 at u3 a16 ⊢
  refine⟨_,rfl,by show 2<=sizeLine;decide,fun v hv=>?_⟩
  have u4:=ao (o:=.tup [.ref u,.str root]) (ae.refl H16) hv
  have s8v:=u0.trans (u1.trans (u2.trans (u3.trans u4)))
  refine k v u pa ra root ps rs' _ (P12.keep fun o e=>s8v _ _ e) ai ⟨u4 _ _ a16,u4 _ _ (u3 _ _ (u2 _ _ a14)),u4 _ _ (u3 _ _ a15),fun x hx=>s8v _ _ (Ra10 x (hp2.mem_iff.mp hx))⟩ ⟨?_,pnm,psw,fun r hr=>?_,?_,by omega,?_⟩ (by omega) (by rw [hp2.length_eq];omega) hroot (K12.of_same s8v)
  ·intro z;rw [z] at plen;simp at plen;omega
  ·obtain⟨x,hx,rfl⟩:=List.mem_map.mp hr
   have hxr:=hp2.mem_iff.mp hx
   obtain⟨y1,y2,y3⟩:=Ro x hxr
   exact⟨cnm _ (by rw [<- en];exact List.mem_map_of_mem (f:=fun z:Addr×Row=>z.2.1) hxr),y1,y2,y3⟩
  ·rw [List.map_map] at hpw ⊢;exact hpw
  ·rw [List.length_map,hp2.length_eq];omega
end
end K81
namespace L2
open PySem PyProof.Rows
section
variable {X:Cx}
noncomputable def qt (K:PySem.W.Frag):V->V->Hp->VK->Prop:=fun x y H Q=>∃p xs i v,x=.ref p/\y=.int i/\SqL K H p xs/\0<=i/\xs[i.toNat]?=some v/\Q v H
theorem iN:kr X (qt X.K):=by
 intro pins s σ H x y v u Q I rx ry h
 obtain⟨p,xs,i,z,rfl,rfl,hq,h0,he,q⟩:=h
 cases rx
 obtain⟨t,rfl⟩:=ry
 obtain⟨its,r,pl,hz⟩:=I.list hq
 obtain⟨w,ew,rw'⟩:=r.get he
 have hl:=r.length
 have hlt:i.toNat < xs.length:=(List.getElem?_eq_some_iff.mp he).1
 have hn:=cV
 exact wpAny_getItem_list pl.isList h0 (by omega) (by simpa using ew) ⟨z,H,I,rw',q⟩
theorem lL:bj X (.builtin "len") (fun xs H Q=>∃a kvs,xs=[V.ref a]/\Rd H a (.dK kvs)/\Q (.int kvs.length) H):=by
 intro pins s σ H xs us Q I r h
 obtain⟨a,kvs,rfl,ha,q⟩:=h
 obtain⟨u,rfl,ru⟩:=vals1 r
 cases ru
 exact qi I ha fun t s' I'=>⟨.int kvs.length,H,I',⟨t,rfl⟩,q⟩
theorem jb {x:Int}{n:Nat} (h:x.natAbs < 2 ^ n):Builtin.Int.intBits x<=n:=by
 unfold Builtin.Int.intBits
 split
 ·exact Nat.zero_le _
 ·rename_i h0
  have:x.natAbs≠0:=fun z=>h0 (by simpa using Int.natAbs_eq_zero.mp z)
  have:=(Nat.log2_lt this).mpr h
  omega
noncomputable def qU (i j:Int):Prop:=i.natAbs < 2 ^ 3000/\j.natAbs < 2 ^ 3000
theorem dH:OpR X (binaryOp .Mult) (rI qU fun i j=>.int (i * j)):=opI fun _ _ _ _ _ _ _ hc q=>mul_int q (IntMulOk.of_bits (Nat.le_trans (jb hc.1) (by decide)) (Nat.le_trans (jb hc.2) (by decide)))
noncomputable def qo (i j:Int):Prop:=j≠0/\j.natAbs < 2 ^ 3000
theorem mL:OpR X (binaryOp .FloorDiv) (rI qo fun i j=>.int (i.fdiv j)):=opI fun i j _ _ _ _ _ hc q=>by
 have h2:j.natAbs < 2 ^ 9000:=Nat.lt_of_lt_of_le hc.2 (Nat.pow_le_pow_right (by decide) (by decide))
 exact floordiv_int hc.1 q (.inl (PyProof.noPylong_of_log2 ((Nat.log2_lt (by have:=hc.1;omega)).mpr h2)))
end
theorem mq {K:PySem.W.Frag}{D:Addr}{g:TG}{tk tv:TE}{σ':St}{fin:Hp->Prop}{H1:Hp}{a:Addr}{xs:List V} (Pv:Nat->St->Hp->Prop) (h0:Pv 0 σ' H1) (hl:∀i σ H,i<=xs.length->Pv i σ H->SqL K H a xs)
  (hs:∀i x σ H T,xs[i]?=some x->Pv i σ H->H T=none->g (.ref T) σ (upd H T (.tup [.int i,x])) fun σ2 H2=>tk σ2 H2 (fun y H4=>tv σ2 H4 fun v H5=>∃H6,fV H5 D y v H6/\Pv (i + 1) σ2 H6))
  (hd:∀σ H,Pv xs.length σ H->fin H):gg D (Ite K a) g be tk tv σ' fin H1:=by
 refine⟨fun i m σ H=>m=xs.length - i/\i<=xs.length/\Pv i σ H,⟨xs.length,by simp,Nat.zero_le _,h0⟩,?_⟩
 rintro i m σ H ⟨rfl,hi,p⟩
 have q1:=hl i σ H hi p
 by_cases h:i < xs.length
 ·refine .inr ⟨⟨xs,xs[i],q1,by simp [h]⟩,fun σ' H'=>Pv (i + 1) σ' H',fun σ' H' z=>⟨xs.length - (i + 1),by omega,rfl,h,z⟩,?_⟩
  rintro v H' ⟨T,x,rfl,hT,rfl,e1⟩
  simpa [be] using hs i x σ H T (e1 xs q1) p hT
 ·have e:i=xs.length:=by omega
  subst e
  exact .inl ⟨⟨xs,q1,Nat.le_refl _⟩,hd σ H p⟩
theorem mC {K:PySem.W.Frag}{g:TG}{tt:TT}{te:TE}{σ':St}{fin:List V->Hp->Prop}{H1:Hp}{a:Addr}{xs:List V} (hn:xs.length < sizeLine) (Pv:Nat->List V->St->Hp->Prop) (h0:Pv 0 [] σ' H1)
  (hl:∀i zs σ H,i<=xs.length->Pv i zs σ H->zs.length<=i/\SqL K H a xs)
  (hs:∀i x zs σ H T,xs[i]?=some x->Pv i zs σ H->H T=none->g (.ref T) σ (upd H T (.tup [.int i,x])) fun σ2 H2=>tt σ2 H2 fun b H3=>if b=true then te σ2 H3 (fun v H4=>Pv (i + 1) (zs++[v]) σ2 H4) else Pv (i + 1) zs σ2 H3)
  (hd:∀zs σ H,Pv xs.length zs σ H->fin zs H):LcW (Ite K a) g tt te σ' fin H1:=by
 refine⟨fun i m zs σ H=>m=xs.length - i/\i<=xs.length/\Pv i zs σ H,⟨xs.length,by simp,Nat.zero_le _,h0⟩,?_⟩
 rintro i m zs σ H ⟨rfl,hi,p⟩
 obtain⟨q0,q1⟩:=hl i zs σ H hi p
 by_cases hlt:i < xs.length
 ·refine .inr ⟨⟨xs,xs[i],q1,by simp [hlt]⟩,by omega,fun zs' σ2 H2=>Pv (i + 1) zs' σ2 H2,fun zs' σ2 H2 q=>⟨xs.length - (i + 1),by omega,rfl,hlt,q⟩,fun v H' y=>?_⟩
  obtain⟨T,x,rfl,hT,rfl,e1⟩:=y
  exact hs i x zs σ H T (e1 xs q1) p hT
 ·have e:i=xs.length:=by omega
  subst e
  exact .inl ⟨⟨xs,q1,Nat.le_refl _⟩,by omega,hd zs σ H p⟩
theorem nS {K:PySem.W.Frag}{g:TG}{te:TE}{σ':St}{fin:List V->Hp->Prop}{H1:Hp}{a b:Addr}{xs ys:List V} (he:xs.length=ys.length) (hn:xs.length < sizeLine) (Pv:Nat->List V->St->Hp->Prop) (h0:Pv 0 [] σ' H1)
  (hl:∀i zs σ H,i<=xs.length->Pv i zs σ H->zs.length<=i/\SqT K H a xs/\SqT K H b ys)
  (hs:∀i x y zs σ H T,xs[i]?=some x->ys[i]?=some y->Pv i zs σ H->H T=none->g (.ref T) σ (upd H T (.tup [x,y])) fun σ2 H2=>te σ2 H2 (fun v H4=>Pv (i + 1) (zs++[v]) σ2 H4))
  (hd:∀zs σ H,Pv xs.length zs σ H->fin zs H):LcW (Ity K a b) g be te σ' fin H1:=by
 refine⟨fun i m zs σ H=>m=xs.length - i/\i<=xs.length/\Pv i zs σ H,⟨xs.length,by simp,Nat.zero_le _,h0⟩,?_⟩
 rintro i m zs σ H ⟨rfl,hi,p⟩
 obtain⟨q0,q1,q2⟩:=hl i zs σ H hi p
 by_cases h:i < xs.length
 ·refine .inr ⟨⟨xs,ys,xs[i],ys[i],q1,q2,List.getElem?_eq_getElem h,List.getElem?_eq_getElem (by omega)⟩,by omega,fun zs' σ' H'=>Pv (i + 1) zs' σ' H',fun zs' σ' H' z=>⟨xs.length - (i + 1),by omega,rfl,h,z⟩,?_⟩
  rintro v H' ⟨T,x,y,rfl,hT,rfl,hx,hy⟩
  simpa [be] using hs i x y zs σ H T (hx xs q1) (hy ys q2) p hT
 ·have e:i=xs.length:=by omega
  subst e
  exact .inl ⟨⟨xs,q1,Nat.le_refl _⟩,by omega,hd zs σ H p⟩
theorem i5 {K:PySem.W.Frag}{g:TG}{te:TE}{σ':St}{fin:List V->Hp->Prop}{H1:Hp}{a b:Addr}{xs ys:List V} (he:xs.length=ys.length) (hn:xs.length < sizeLine) (Pv:Nat->List V->St->Hp->Prop) (h0:Pv 0 [] σ' H1)
  (hl:∀i zs σ H,i<=xs.length->Pv i zs σ H->zs.length<=i/\SqL K H a xs/\SqL K H b ys)
  (hs:∀i x y zs σ H T,xs[i]?=some x->ys[i]?=some y->Pv i zs σ H->H T=none->g (.ref T) σ (upd H T (.tup [x,y])) fun σ2 H2=>te σ2 H2 (fun v H4=>Pv (i + 1) (zs++[v]) σ2 H4))
  (hd:∀zs σ H,Pv xs.length zs σ H->fin zs H):LcW (Itz K a b) g be te σ' fin H1:=by
 have hm:min xs.length ys.length=xs.length:=by omega
 exact jk (by omega) Pv h0 (fun i zs σ H hi p=>hl i zs σ H (by omega) p) (fun i x y zs σ H T e1 e2 p hT=>by simpa [be] using hs i x y zs σ H T e1 e2 p hT) (fun zs σ H p=>hd zs σ H (hm ▸ p))
theorem dr (xs:List V):bw xs (some 1) none=xs.drop 1:=by
 unfold bw
 rw [HT.rS,show (1:Int)=((1:Nat):Int) from rfl,HT.rX]
 rcases Nat.le_total 1 xs.length with h | h
 ·rw [Nat.min_eq_left h,List.take_of_length_le (by simp)]
 ·rw [Nat.min_eq_right h,List.drop_length,List.drop_of_length_le h];simp
theorem lx {g:TG}{te:TE}{σ':St}{fin:List V->Hp->Prop}{H1:Hp}{a:Addr}{o:Obj}{kvs:List (Key×V)} (hn:kvs.length < sizeLine) (Pv:Nat->List V->St->Hp->Prop) (h0:Pv 0 [] σ' H1) (hl:∀i ys σ H,i<=kvs.length->Pv i ys σ H->ys.length<=i/\H a=some (.frz o (.dK kvs)))
  (hs:∀i p ys σ H,kvs[i]?=some p->Pv i ys σ H->g (kV p.1) σ H fun σ2 H2=>te σ2 H2 (fun v H4=>Pv (i + 1) (ys++[v]) σ2 H4)) (hd:∀ys σ H,Pv kvs.length ys σ H->fin ys H):LcW (Itk a o) g be te σ' fin H1 :=
 lX hn Pv h0 hl (fun i p ys σ H e q=>by simpa [be] using hs i p ys σ H e q) hd
end L2
namespace DT
noncomputable def sm:Nat->(Nat->Int)->Int
 | 0,_=>0
 | n + 1,f=>sm n f + f n
noncomputable def sg (i:Nat):Int:=if i % 2=0 then 1 else -1
noncomputable def skip (i r:Nat):Nat:=if r < i then r else r + 1
noncomputable abbrev Mx:=Nat->Nat->Int
noncomputable def dt:Nat->Mx->Int
 | 0,_=>1
 | n + 1,M=>sm (n + 1) fun i=>sg i * M i 0 * dt n (fun r c=>M (skip i r) (c + 1))
theorem cQ (i:Nat):sg (i + 1)=- sg i:=by
 unfold sg
 rcases Nat.mod_two_eq_zero_or_one i with h | h
 ·rw [if_neg (by omega),if_pos h]
 ·rw [if_pos (by omega),if_neg (by omega)];rfl
theorem qh (i:Nat):sg i * sg i=1:=by
 unfold sg
 split <;> rfl
theorem dg {n:Nat}{f g:Nat->Int} (h:∀i,i < n->f i=g i):sm n f=sm n g:=by
 induction n with
 | zero=>rfl
 | succ n ih=>rw [sm,sm,ih fun i hi=>h i (by omega),h n (by omega)]
theorem dN {n:Nat}{f:Nat->Int} (h:∀i,i < n->f i=0):sm n f=0:=by
 induction n with
 | zero=>rfl
 | succ n ih=>rw [sm,ih fun i hi=>h i (by omega),h n (by omega)];rfl
theorem qc (n:Nat) (f g:Nat->Int) (a b:Int):sm n (fun i=>a * f i + b * g i)=a * sm n f + b * sm n g:=by
 induction n with
 | zero=>simp [sm]
 | succ n ih=>simp only [sm];rw [ih];grind
theorem ju (n:Nat) (f:Nat->Int) (a:Int):sm n (fun i=>a * f i)=a * sm n f:=by
 induction n with
 | zero=>simp [sm]
 | succ n ih=>simp only [sm];rw [ih];grind
theorem dh {n k:Nat} (hk:k<=n) (f:Nat->Int):sm (n + 1) f=f k + sm n (fun i=>f (skip k i)):=by
 induction n with
 | zero =>
  have:k=0:=by omega
  subst this
  simp [sm]
 | succ n ih =>
  by_cases c:k=n + 1
  ·subst c
   have e:sm (n + 1) (fun i=>f (skip (n + 1) i))=sm (n + 1) f:=dg fun i hi=>by simp [skip,hi]
   rw [e,sm];omega
  ·have e:=ih (by omega)
   rw [sm,e,sm]
   have:skip k n=n + 1:=by unfold skip;rw [if_neg (by omega)]
   rw [this];omega
theorem a8 {n:Nat}{M N:Mx} (h:∀r c,r < n->c < n->M r c=N r c):dt n M=dt n N:=by
 induction n generalizing M N with
 | zero=>rfl
 | succ n ih =>
  rw [dt,dt]
  refine dg fun i hi=>?_
  rw [h i 0 hi (by omega),ih fun r c hr hc=>h _ _ (by unfold skip;split <;> omega) (by omega)]
theorem fO {n k:Nat} (hk:k < n) {M A B:Mx} (a b:Int) (hA:∀r c,r < n->c < n->r≠k->A r c=M r c) (hB:∀r c,r < n->c < n->r≠k->B r c=M r c) (h:∀c,c < n->M k c=a * A k c + b * B k c) :
  dt n M=a * dt n A + b * dt n B:=by
 induction n generalizing M A B k with
 | zero=>omega
 | succ n ih =>
  rw [dt,dt,dt,<- qc]
  refine dg fun i hi=>?_
  by_cases c:i=k
  ·subst c
   have e1:dt n (fun r c=>A (skip i r) (c + 1))=dt n (fun r c=>M (skip i r) (c + 1)):=a8 fun r c hr hc=>hA _ _ (by unfold skip;split <;> omega) (by omega) (by unfold skip;split <;> omega)
   have e2:dt n (fun r c=>B (skip i r) (c + 1))=dt n (fun r c=>M (skip i r) (c + 1)):=a8 fun r c hr hc=>hB _ _ (by unfold skip;split <;> omega) (by omega) (by unfold skip;split <;> omega)
   rw [e1,e2,h 0 (by omega)]
   grind
  ·obtain⟨k',hk',e⟩:∃k',k' < n/\skip i k'=k:=by
    by_cases d:k < i
    ·exact⟨k,by omega,by simp [skip,d]⟩
    ·exact⟨k - 1,by omega,by unfold skip;rw [if_neg (by omega)];omega⟩
   have hne:∀r,r≠k'->skip i r≠k:=fun r hr z=>hr (by rw [<- e] at z;unfold skip at z;split at z <;> split at z <;> omega)
   have q:=ih (k:=k') hk' (M:=fun r c=>M (skip i r) (c + 1)) (A:=fun r c=>A (skip i r) (c + 1)) (B:=fun r c=>B (skip i r) (c + 1))
    (fun r c hr hc hne'=>hA _ _ (by unfold skip;split <;> omega) (by omega) (hne r hne')) (fun r c hr hc hne'=>hB _ _ (by unfold skip;split <;> omega) (by omega) (hne r hne')) (fun c hc=>by simp only [e];exact h _ (by omega))
   rw [q,hA i 0 hi (by omega) c,hB i 0 hi (by omega) c]
   grind
theorem jJ {n k:Nat} (hk:k + 1 < n) {M:Mx} (h:∀c,c < n->M k c=M (k + 1) c):dt n M=0:=by
 induction n generalizing M k with
 | zero=>omega
 | succ n ih =>
  rw [dt,dh (k:=k) (by omega)]
  obtain⟨m,rfl⟩:∃m,n=m + 1:=⟨n - 1,by omega⟩
  rw [dh (k:=k) (by omega)]
  have e1:skip k k=k + 1:=by simp [skip]
  rw [e1]
  have e2:dt (m + 1) (fun r c=>M (skip (k + 1) r) (c + 1))=dt (m + 1) (fun r c=>M (skip k r) (c + 1)):=a8 fun r c hr hc=>by
   by_cases d:r=k
   ·subst d
    rw [show skip (r + 1) r=r by simp [skip],show skip r r=r + 1 by simp [skip]]
    exact h _ (by omega)
   ·have:skip (k + 1) r=skip k r:=by unfold skip;split <;> split <;> omega
    rw [this]
  rw [e2,cQ,<- h 0 (by omega)]
  have z:sm m (fun i=>sg (skip k (skip k i)) * M (skip k (skip k i)) 0 * dt (m + 1) (fun r c=>M (skip (skip k (skip k i)) r) (c + 1)))=0:=dN fun i hi=>by
   generalize hj:skip k (skip k i)=j
   have hj':j < m + 2/\j≠k/\j≠k + 1:=by
    unfold skip at hj
    grind
   obtain⟨k',hk',e1,e2⟩:∃k',k' + 1 < m + 1/\skip j k'=k/\skip j (k' + 1)=k + 1:=by
    by_cases d:k < j
    ·exact⟨k,by omega,by simp [skip,d],by unfold skip;rw [if_pos (by omega)]⟩
    ·exact⟨k - 1,by omega,by unfold skip;rw [if_neg (by omega)];omega,by unfold skip;rw [if_neg (by omega)];omega⟩
   rw [ih (k:=k') hk' fun c hc=>by simp only [e1,e2];exact h _ (by omega)]
   exact Int.mul_zero _
  rw [z]
  grind
noncomputable def aE (M:Mx) (k:Nat) (u:Nat->Int):Mx:=fun r c=>if r=k then u c else M r c
theorem eG {n k:Nat} (hk:k < n) (M:Mx) (u v:Nat->Int) (a b:Int):dt n (aE M k fun c=>a * u c + b * v c)=a * dt n (aE M k u) + b * dt n (aE M k v) :=
 fO hk a b (fun r c _ _ h=>by simp [aE,h]) (fun r c _ _ h=>by simp [aE,h]) fun c _=>by simp [aE]
noncomputable def swp (k l r:Nat):Nat:=if r=k then l else if r=l then k else r
theorem gO {n k l:Nat} (hk:k < n) (hl:l < n) (hkl:k≠l) (al:∀N:Mx,(∀c,c < n->N k c=N l c)->dt n N=0) (M:Mx):dt n (fun r c=>M (swp k l r) c)=- dt n M:=by
 have h0:=al (aE (aE M k fun c=>1 * M k c + 1 * M l c) l fun c=>1 * M k c + 1 * M l c) fun c _=>by simp [aE,hkl]
 rw [eG hl] at h0
 have sw:∀(u v:Nat->Int),aE (aE M k u) l v=aE (aE M l v) k u:=fun u v=>by
  funext r c
  unfold aE
  by_cases a:r=k
  ·subst a;simp [hkl]
  ·simp [a]
 rw [sw,sw,eG hk,eG hk] at h0
 have z1:dt n (aE (aE M l fun c=>M k c) k fun c=>M k c)=0:=al _ fun c _=>by simp [aE,Ne.symm hkl]
 have z2:dt n (aE (aE M l fun c=>M l c) k fun c=>M l c)=0:=al _ fun c _=>by simp [aE,Ne.symm hkl]
 have e1:aE (aE M l fun c=>M k c) k (fun c=>M l c)=fun r c=>M (swp k l r) c:=by
  funext r c
  unfold aE swp
  by_cases a:r=k
  ·simp [a]
  ·by_cases b:r=l
   ·subst b;simp [a]
   ·simp [a,b]
 have e2:aE (aE M l fun c=>M l c) k (fun c=>M k c)=M:=by
  funext r c
  unfold aE
  by_cases a:r=k
  ·simp [a]
  ·by_cases b:r=l
   ·subst b;simp [a]
   ·simp [a,b]
 rw [z1,z2,e1,e2] at h0
 grind
theorem jw {n k l:Nat} (hkl:k < l) (hl:l < n) {M:Mx} (h:∀c,c < n->M k c=M l c):dt n M=0:=by
 obtain⟨d,rfl⟩:∃d,l=k + 1 + d:=⟨l - k - 1,by omega⟩
 clear hkl
 induction d generalizing M with
 | zero=>exact jJ hl h
 | succ d ih =>
  have sw:=gO (n:=n) (k:=k + 1 + d) (l:=k + 1 + (d + 1)) (by omega) hl (by omega) (fun N hN=>jJ (k:=k + 1 + d) hl hN) M
  have z:=ih (M:=fun r c=>M (swp (k + 1 + d) (k + 1 + (d + 1)) r) c) (by omega) fun c hc=>by
   have e1:swp (k + 1 + d) (k + 1 + (d + 1)) k=k:=by unfold swp;rw [if_neg (by omega),if_neg (by omega)]
   have e2:swp (k + 1 + d) (k + 1 + (d + 1)) (k + 1 + d)=k + 1 + (d + 1):=by simp [swp]
   simp only [e1,e2]
   exact h c hc
  omega
theorem ji {n k l:Nat} (hkl:k≠l) (hk:k < n) (hl:l < n) {M:Mx} (h:∀c,c < n->M k c=M l c):dt n M=0:=by
 rcases Nat.lt_or_gt_of_ne hkl with c | c
 ·exact jw c hl h
 ·exact jw c hk fun x hx=>(h x hx).symm
theorem oQ {n k l:Nat} (hk:k < n) (hl:l < n) (hkl:k≠l) (M:Mx):dt n (fun r c=>M (swp k l r) c)=- dt n M :=
 gO hk hl hkl (fun N hN=>ji hkl hk hl hN) M
theorem iu (n:Nat) (a:Int) (M:Mx):dt n (fun r c=>a * M r c)=a ^ n * dt n M:=by
 induction n generalizing M with
 | zero=>simp [dt]
 | succ n ih =>
  rw [dt,dt,<- ju]
  refine dg fun i hi=>?_
  rw [ih,Int.pow_succ]
  grind
theorem nW {n:Nat}{M:Mx} (h:∀r,r < n + 1->M r 0=0):dt (n + 1) M=0:=by
 rw [dt]
 exact dN fun i hi=>by rw [h i hi];simp
noncomputable def cond (M:Mx):Mx:=fun r c=>M 0 0 * M (r + 1) (c + 1) - M (r + 1) 0 * M 0 (c + 1)
noncomputable def bo (M:Mx) (k:Nat):Mx:=fun r c=>if 0 < r/\r<=k then M 0 0 * M r c - M r 0 * M 0 c else M r c
theorem iq (n:Nat) (M:Mx):∀k,k<=n->dt (n + 1) (bo M k)=M 0 0 ^ k * dt (n + 1) M
 | 0,_=>by
  rw [show bo M 0=M by funext r c;unfold bo;rw [if_neg (by omega)]];simp
 | k + 1,hk=>by
  have ih:=iq n M k (by omega)
  have z:dt (n + 1) (aE (bo M k) (k + 1) fun c=>M 0 c)=0:=ji (k:=0) (l:=k + 1) (by omega) (by omega) (by omega) fun c _=>by simp [aE,bo]
  rw [fO (k:=k + 1) (by omega) (A:=bo M k) (B:=aE (bo M k) (k + 1) fun c=>M 0 c) (M 0 0) (- M (k + 1) 0),ih,z,Int.pow_succ]
  ·grind
  ·intro r c _ _ hr
   unfold bo
   by_cases a:0 < r/\r<=k
   ·rw [if_pos a,if_pos (by omega)]
   ·rw [if_neg a,if_neg (by omega)]
  ·intro r c _ _ hr
   unfold aE
   rw [if_neg hr]
   unfold bo
   by_cases a:0 < r/\r<=k
   ·rw [if_pos a,if_pos (by omega)]
   ·rw [if_neg a,if_neg (by omega)]
  ·intro c _
   unfold aE bo
   rw [if_pos (by omega),if_neg (by omega),if_pos rfl]
   grind
theorem kA (n:Nat) (M:Mx):M 0 0 ^ n * dt (n + 1) M=M 0 0 * dt n (cond M):=by
 rw [<- iq n M n (Nat.le_refl _),dt,dh (k:=0) (by omega)]
 have z:sm n (fun i=>sg (skip 0 i) * bo M n (skip 0 i) 0 * dt n (fun r c=>bo M n (skip (skip 0 i) r) (c + 1)))=0:=dN fun i hi=>by
  have:bo M n (skip 0 i) 0=0:=by
   rw [show skip 0 i=i + 1 by simp [skip]]
   unfold bo
   rw [if_pos (by omega)]
   grind
  rw [this];simp
 have e:bo M n 0 0=M 0 0:=by simp [bo]
 have g:dt n (fun r c=>bo M n (skip 0 r) (c + 1))=dt n (cond M):=a8 fun r c hr hc=>by
  rw [show skip 0 r=r + 1 by simp [skip]]
  unfold bo cond
  rw [if_pos (by omega)]
 rw [z,e,g]
 simp [sg]
noncomputable def bd (k i j:Nat) (M:Mx):Mx:=fun r c=>M (if r < k then r else i) (if c < k then c else j)
theorem ow {k i j:Nat} (M:Mx):∀r c,cond (bd (k + 1) (i + 1) (j + 1) M) r c=bd k i j (cond M) r c:=fun r c=>by
 unfold cond bd
 have e1:∀r,(if r + 1 < k + 1 then r + 1 else i + 1)=(if r < k then r else i) + 1:=fun r=>by split <;> split <;> omega
 have e2:∀r,(if r + 1 < k + 1 then r + 1 else j + 1)=(if r < k then r else j) + 1:=fun r=>by split <;> split <;> omega
 rw [e1,e2]
 simp
theorem gr (n:Nat):∀(k:Nat) (M:Mx),(∀j,j<=k->dt j M≠0)->dt k M ^ n * dt (k + (n + 1)) M=dt (n + 1) (fun i j=>dt (k + 1) (bd k (k + i) (k + j) M))
 | 0,M,_=>by
  have:dt 0 M=1:=rfl
  rw [this]
  simp only [Int.one_pow,Int.one_mul,Nat.zero_add]
  refine a8 fun r c _ _=>?_
  simp [dt,sm,sg,bd]
 | k + 1,M,h=>by
  have hp:M 0 0≠0:=by
   have:=h 1 (by omega)
   simpa [dt,sm,sg] using this
  generalize hp':M 0 0=p at hp
  have c1:∀m,p ^ m * dt (m + 1) M=p * dt m (cond M):=fun m=>by rw [<- hp'];exact kA m M
  have hpm:∀m:Nat,p ^ m≠0:=fun m=>Int.pow_ne_zero hp
  have ih:=gr n k (cond M) fun j hj z=>by
   have:=c1 j
   rw [z,Int.mul_zero] at this
   rcases Int.mul_eq_zero.mp this with q | q
   ·exact hpm _ q
   ·exact h (j + 1) (by omega) q
  have e1:dt (n + 1) (fun i j=>p * dt (k + 1) (bd k (k + i) (k + j) (cond M)))=p ^ (n + 1) * dt (n + 1) (fun i j=>dt (k + 1) (bd k (k + i) (k + j) (cond M))):=iu _ _ _
  have e2:dt (n + 1) (fun i j=>p * dt (k + 1) (bd k (k + i) (k + j) (cond M)))=dt (n + 1) (fun i j=>p ^ (k + 1) * dt (k + 1 + 1) (bd (k + 1) (k + 1 + i) (k + 1 + j) M)):=a8 fun r c _ _=>by
   have q:=kA (k + 1) (bd (k + 1) (k + r + 1) (k + c + 1) M)
   have e:bd (k + 1) (k + r + 1) (k + c + 1) M 0 0=p:=by simp [bd,hp']
   rw [e,a8 fun r' c' _ _=>ow M r' c'] at q
   rw [<- q,show k + 1 + r=k + r + 1 by omega,show k + 1 + c=k + c + 1 by omega]
  rw [e2,iu,<- ih] at e1
  have c2:=c1 k
  have c3:=c1 (k + (n + 1))
  rw [show k + 1 + (n + 1)=k + (n + 1) + 1 by omega]
  have key:p ^ ((k + 1) * (n + 1)) * (dt (k + 1) M ^ n * dt (k + (n + 1) + 1) M)=p ^ ((k + 1) * (n + 1)) * dt (n + 1) (fun i j=>dt (k + 1 + 1) (bd (k + 1) (k + 1 + i) (k + 1 + j) M)):=by
   rw [Int.pow_mul,e1]
   have a1:p ^ (n + 1) * (dt k (cond M) ^ n * dt (k + (n + 1)) (cond M))=(p * dt k (cond M)) ^ n * (p * dt (k + (n + 1)) (cond M)):=by
    rw [Int.mul_pow,Int.pow_succ];grind
   rw [a1,<- c2,<- c3,Int.mul_pow,<- Int.pow_mul,<- Int.pow_mul]
   have a2:(k + 1) * (n + 1)=k * n + (k + (n + 1)):=by grind
   rw [a2,Int.pow_add]
   grind
  exact Int.eq_of_mul_eq_mul_left (hpm _) key
noncomputable def at2 (L:List (List Int)):Mx:=fun r c=>(((L[r]?).getD [])[c]?).getD 0
noncomputable def clr (last:Int):List (List Int)->List (List Int)
 | []=>[]
 | f::R=>R.map fun row=>List.zipWith (fun a b=>Int.fdiv (a * f.headD 0 - row.headD 0 * b) last) row.tail f.tail
noncomputable def swL (L:List (List Int)) (f:Nat):List (List Int):=(L.set 0 ((L[f]?).getD [])).set f ((L[0]?).getD [])
theorem pO {n:Nat}{f:Nat->Int}{b:Nat} (h:∀i,i < n->(f i).natAbs<=b):(sm n f).natAbs<=n * b:=by
 induction n with
 | zero=>simp [sm]
 | succ n ih =>
  have h1:=ih fun i hi=>h i (by omega)
  have h2:=h n (by omega)
  rw [sm,Nat.succ_mul]
  have:=Int.natAbs_add_le (sm n f) (f n)
  omega
noncomputable def fac:Nat->Nat
 | 0=>1
 | n + 1=>(n + 1) * fac n
theorem eN {b:Nat}:∀{n:Nat}{M:Mx},(∀r c,r < n->c < n->(M r c).natAbs<=b)->(dt n M).natAbs<=fac n * b ^ n
 | 0,M,_=>by simp [dt,fac]
 | n + 1,M,h=>by
  rw [dt]
  refine Nat.le_trans (pO (b:=b * (fac n * b ^ n)) fun i hi=>?_) (Nat.le_of_eq ?_)
  ·rw [Int.natAbs_mul,Int.natAbs_mul]
   have h1:(sg i).natAbs=1:=by unfold sg;split <;> rfl
   rw [h1,Nat.one_mul]
   exact Nat.mul_le_mul (h i 0 hi (by omega)) (eN fun r c hr hc=>h _ _ (by unfold skip;split <;> omega) (by omega))
  ·rw [fac,Nat.pow_succ,Nat.mul_assoc]
   congr 1
   rw [Nat.mul_comm b,Nat.mul_assoc]
noncomputable def Bar (N:Nat) (M0:Mx) (L:List (List Int)) (sign last:Int):Prop :=
 ∃(Mc:Mx) (k:Nat),k + L.length=N/\(∀row∈L,row.length=L.length)/\(sign=1\/sign=-1)/\sign * dt N Mc=dt N M0/\last=dt k Mc/\(∀j,j<=k->dt j Mc≠0) /\
  (∀r,r < N->∃r',r' < N/\∀c,Mc r c=M0 r' c)/\∀i j,i < L.length->j < L.length->at2 L i j=dt (k + 1) (bd k (k + i) (k + j) Mc)
theorem Bar.start {L:List (List Int)} (h:∀row∈L,row.length=L.length):Bar L.length (at2 L) L 1 1 :=
 ⟨at2 L,0,by omega,h,.inl rfl,by omega,rfl,fun j hj=>by
  cases j with
  | zero=>show (1:Int)≠0;decide
  | succ j=>omega,fun r hr=>⟨r,hr,fun _=>rfl⟩,fun i j _ _=>by simp [dt,sm,sg,bd]⟩
theorem Bar.done {N:Nat}{M0:Mx}{sign last:Int} (h:Bar N M0 [] sign last):sign * last=dt N M0:=by
 obtain⟨Mc,k,hk,_,hs,e,hl,_⟩:=h
 simp at hk
 subst hk
 rw [hl];exact e
theorem Bar.ne {N:Nat}{M0:Mx}{L:List (List Int)}{sign last:Int} (h:Bar N M0 L sign last):last≠0:=by
 obtain⟨Mc,k,_,_,_,_,rfl,z,_⟩:=h
 exact z k (Nat.le_refl _)
theorem Bar.zero {N:Nat}{M0:Mx}{L:List (List Int)}{sign last:Int} (h:Bar N M0 L sign last) (hne:L≠[]) (hz:∀r,r < L.length->at2 L r 0=0):dt N M0=0:=by
 obtain⟨Mc,k,hk,_,hs,e,hl,hd,_,hm⟩:=h
 obtain⟨n,hn⟩:∃n,L.length=n + 1:=⟨L.length - 1,by have:=List.length_pos_iff.mpr hne;omega⟩
 have s:=gr n k Mc hd
 rw [show dt (n + 1) (fun i j=>dt (k + 1) (bd k (k + i) (k + j) Mc))=dt (n + 1) (at2 L) from a8 fun r c hr hc=>(hm r c (by omega) (by omega)).symm,nW fun r hr=>hz r (by omega),show k + (n + 1)=N by omega] at s
 rcases Int.mul_eq_zero.mp s with q | q
 ·exact absurd q (Int.pow_ne_zero (hd k (Nat.le_refl _)))
 ·rw [<- e,q,Int.mul_zero]
theorem jr {L:List (List Int)}{f:Nat} (hf:f < L.length) (h0:f≠0) {r:Nat} (hr:r < L.length) (c:Nat):at2 (swL L f) r c=at2 L (swp 0 f r) c:=by
 unfold at2 swL swp
 by_cases a:r=0
 ·subst a
  rw [List.getElem?_set_ne (by omega),List.getElem?_set_self (by omega)]
  simp
 ·by_cases b:r=f
  ·subst b
   rw [List.getElem?_set_self (by simp;omega)]
   simp [a]
  ·rw [List.getElem?_set_ne (by omega),List.getElem?_set_ne (by omega)]
   simp [a,b]
theorem Bar.swap {N:Nat}{M0:Mx}{L:List (List Int)}{sign last:Int} (h:Bar N M0 L sign last) {f:Nat} (hf:f < L.length) (h0:f≠0):Bar N M0 (swL L f) (-sign) last:=by
 obtain⟨Mc,k,hk,hr,hs,e,hl,hd,hp,hm⟩:=h
 have hlen:(swL L f).length=L.length:=by simp [swL]
 have low:∀r,r < k->swp k (k + f) r=r:=fun r hr=>by unfold swp;rw [if_neg (by omega),if_neg (by omega)]
 have hdt:∀j,j<=k->dt j (fun r c=>Mc (swp k (k + f) r) c)=dt j Mc:=fun j hj=>a8 fun r c hr _=>by rw [low r (by omega)]
 refine⟨fun r c=>Mc (swp k (k + f) r) c,k,by omega,fun row hrow=>?_,by rcases hs with rfl | rfl;exact .inr rfl;exact .inl rfl,?_,?_,fun j hj=>by rw [hdt j hj];exact hd j hj,fun r hr=>?_,fun i j hi hj=>?_⟩
 ·rw [hlen]
  rcases List.mem_or_eq_of_mem_set hrow with q | q
  ·rcases List.mem_or_eq_of_mem_set q with q | q
   ·exact hr row q
   ·rw [q,List.getElem?_eq_getElem hf]
    exact hr _ (List.getElem_mem hf)
  ·rw [q,List.getElem?_eq_getElem (by omega:0 < L.length)]
   exact hr _ (List.getElem_mem _)
 ·rw [oQ (k:=k) (l:=k + f) (by omega) (by omega) (by omega),<- e]
  grind
 ·rw [hl,hdt k (Nat.le_refl _)]
 ·refine hp _ ?_
  unfold swp
  split
  ·omega
  ·split <;> omega
 ·rw [hlen] at hi hj
  rw [jr hf h0 hi,hm _ j (by unfold swp;split;omega;split <;> omega) hj]
  refine a8 fun r c _ _=>?_
  unfold bd
  by_cases a:r < k
  ·simp only [if_pos a,low r a]
  ·simp only [if_neg a]
   rw [show swp k (k + f) (k + i)=k + swp 0 f i by unfold swp;grind]
theorem oB {f:List Int}{R:List (List Int)}{last:Int}{n:Nat} (h:∀row∈f::R,row.length=n + 1) {i j:Nat} (hi:i < R.length) (hj:j < n) :
  at2 (clr last (f::R)) i j=Int.fdiv (at2 (f::R) (i + 1) (j + 1) * at2 (f::R) 0 0 - at2 (f::R) (i + 1) 0 * at2 (f::R) 0 (j + 1)) last:=by
 have h1:=h f List.mem_cons_self
 have h2:=h R[i] (List.mem_cons_of_mem _ (List.getElem_mem hi))
 unfold at2 clr
 simp only [List.getElem?_cons_succ,List.getElem?_cons_zero,List.getElem?_map,List.getElem?_eq_getElem hi,Option.map_some,Option.getD_some]
 generalize R[i]=row at h2
 match f,row,h1,h2 with
 | a::f',b::r',h1,h2 =>
  simp at h1 h2
  simp [List.getElem?_zipWith,List.getElem?_eq_getElem (show j < f'.length by omega),List.getElem?_eq_getElem (show j < r'.length by omega)]
theorem qb (X:Mx):dt 2 X=X 0 0 * X 1 1 - X 1 0 * X 0 1:=by
 simp [dt,sm,sg,skip]
 grind
theorem Bar.clear {N:Nat}{M0:Mx}{L:List (List Int)}{sign last:Int} (h:Bar N M0 L sign last) (hne:L≠[]) (hp:at2 L 0 0≠0):Bar N M0 (clr last L) sign (at2 L 0 0):=by
 obtain⟨Mc,k,hk,hr,hs,e,hl,hd,hq,hm⟩:=h
 cases L with
 | nil=>exact absurd rfl hne
 | cons f R =>
  have hlen:(clr last (f::R)).length=R.length:=by simp [clr]
  have h00:at2 (f::R) 0 0=dt (k + 1) Mc:=by
   rw [hm 0 0 (by simp) (by simp)]
   refine a8 fun r c hr hc=>?_
   unfold bd
   have e1:(if r < k then r else k + 0)=r:=by split <;> omega
   have e2:(if c < k then c else k + 0)=c:=by split <;> omega
   rw [e1,e2]
  refine⟨Mc,k + 1,by rw [hlen];simp at hk;omega,fun row hrow=>?_,hs,e,h00,fun j hj=>?_,hq,fun i j hi hj=>?_⟩
  ·rw [hlen]
   obtain⟨x,hx,rfl⟩:=List.mem_map.mp hrow
   have:=hr x (List.mem_cons_of_mem _ hx)
   have h1:=hr f List.mem_cons_self
   simp at this h1
   simp [this,h1]
  ·rcases Nat.lt_or_ge k j with c | c
   ·have:j=k + 1:=by omega
    subst this
    rw [<- h00];exact hp
   ·exact hd j c
  ·rw [hlen] at hi hj
   rw [oB (n:=R.length) (fun row hrow=>by rw [hr row hrow];simp) hi hj]
   generalize hB:bd (k + 1) (k + 1 + i) (k + 1 + j) Mc=B
   have low:∀r c,r < k + 1->c < k + 1->B r c=Mc r c:=fun r c h1 h2=>by rw [<- hB];simp [bd,h1,h2]
   have s:=gr 1 k B fun j' hj'=>by
    rw [a8 fun r c hr hc=>low r c (by omega) (by omega)]
    exact hd j' hj'
   rw [a8 (n:=k) fun r c hr hc=>low r c (by omega) (by omega),<- hl,qb,Int.pow_succ,Int.pow_zero,Int.one_mul] at s
   have b00:dt (k + 1) (bd k (k + 0) (k + 0) B)=at2 (f::R) 0 0:=by
    rw [hm 0 0 (by simp) (by simp)]
    refine a8 fun r c _ _=>?_
    unfold bd
    exact low _ _ (by split <;> omega) (by split <;> omega)
   have b11:dt (k + 1) (bd k (k + 1) (k + 1) B)=at2 (f::R) (i + 1) (j + 1):=by
    rw [hm (i + 1) (j + 1) (by simp;omega) (by simp;omega)]
    refine a8 fun r c _ _=>?_
    rw [<- hB]
    unfold bd
    have e1:∀r i,(if (if r < k then r else k + 1) < k + 1 then (if r < k then r else k + 1) else k + 1 + i)=(if r < k then r else k + (i + 1)):=fun r i=>by grind
    rw [e1,e1]
   have b10:dt (k + 1) (bd k (k + 1) (k + 0) B)=at2 (f::R) (i + 1) 0:=by
    rw [hm (i + 1) 0 (by simp;omega) (by simp)]
    refine a8 fun r c _ _=>?_
    rw [<- hB]
    unfold bd
    have e1:∀r i,(if (if r < k then r else k + 1) < k + 1 then (if r < k then r else k + 1) else k + 1 + i)=(if r < k then r else k + (i + 1)):=fun r i=>by grind
    have e2:∀r i,(if (if r < k then r else k + 0) < k + 1 then (if r < k then r else k + 0) else k + 1 + i)=(if r < k then r else k + 0):=fun r i=>by grind
    rw [e1,e2]
   have b01:dt (k + 1) (bd k (k + 0) (k + 1) B)=at2 (f::R) 0 (j + 1):=by
    rw [hm 0 (j + 1) (by simp) (by simp;omega)]
    refine a8 fun r c _ _=>?_
    rw [<- hB]
    unfold bd
    have e1:∀r i,(if (if r < k then r else k + 1) < k + 1 then (if r < k then r else k + 1) else k + 1 + i)=(if r < k then r else k + (i + 1)):=fun r i=>by grind
    have e2:∀r i,(if (if r < k then r else k + 0) < k + 1 then (if r < k then r else k + 0) else k + 1 + i)=(if r < k then r else k + 0):=fun r i=>by grind
    rw [e1,e2]
   rw [b00,b11,b10,b01] at s
   have hl0:last≠0:=by rw [hl];exact hd k (Nat.le_refl _)
   rw [show at2 (f::R) (i + 1) (j + 1) * at2 (f::R) 0 0 - at2 (f::R) (i + 1) 0 * at2 (f::R) 0 (j + 1)=last * dt (k + 2) B by grind,Int.mul_fdiv_cancel_left _ hl0]
theorem Bar.small {N b:Nat}{M0:Mx}{L:List (List Int)}{sign last:Int} (h:Bar N M0 L sign last) (hb:∀r c,r < N->c < N->(M0 r c).natAbs<=b) (b1:1<=b) (hN:N<=8) :
  last.natAbs<=fac 8 * b ^ 8/\∀i j,i < L.length->j < L.length->(at2 L i j).natAbs<=fac 8 * b ^ 8:=by
 obtain⟨Mc,k,hk,_,hs,e,hl,hd,hp,hm⟩:=h
 have hc:∀r c,r < N->c < N->(Mc r c).natAbs<=b:=fun r c hr hc=>by
  obtain⟨r',h1,h2⟩:=hp r hr
  rw [h2];exact hb r' c h1 hc
 have up:∀n,n<=8->fac n * b ^ n<=fac 8 * b ^ 8:=fun n hn=>by
  refine Nat.mul_le_mul ?_ (Nat.pow_le_pow_right b1 hn)
  have:∀n,n < 9->fac n<=fac 8:=by decide
  exact this n (by omega)
 refine⟨?_,fun i j hi hj=>?_⟩
 ·rw [hl]
  exact Nat.le_trans (eN fun r c hr hc'=>hc r c (by omega) (by omega)) (up k (by omega))
 ·rw [hm i j hi hj]
  refine Nat.le_trans (eN fun r c hr hc'=>?_) (up (k + 1) (by omega))
  unfold bd
  exact hc _ _ (by split <;> omega) (by split <;> omega)
theorem eR (a b:Nat):sg (a + b)=sg a * sg b:=by
 induction b with
 | zero=>simp [sg]
 | succ b ih=>rw [Nat.add_succ,cQ,ih,cQ];grind
noncomputable abbrev Ti:=Option Nat×Nat
noncomputable def one (t:Ti) (r:Nat):Int:=(if r=t.2 then 1 else 0) - (if t.1=some r then 1 else 0)
noncomputable def tab (E:List Ti):Mx:=fun r c=>((E.filter fun t=>t.2 == c).map fun t=>one t r).sum
end DT
namespace K81
open PySem L2 DT
noncomputable def sqO (b:Bool) (xs:List V):HO:=if b=true then .lst xs else .tup xs
noncomputable def aD (H:Hp) (b:Bool) (r:Addr×List Int):Prop:=H r.1=some (sqO b (r.2.map V.int))
noncomputable abbrev aj (rs:List (Addr×List Int)):List V:=rs.map fun r=>V.ref r.1
theorem aD.same {H H':Hp}{b:Bool}{r:Addr×List Int} (h:aD H b r) (s:ae H H'):aD H' b r:=s _ _ h
theorem aD.sq {K:PySem.W.Frag}{H:Hp}{b:Bool}{r:Addr×List Int} (h:aD H b r):Sq K H r.1 (r.2.map V.int):=by
 cases b
 ·exact .inr (SqT.of h)
 ·exact .inl (SqL.of h)
noncomputable def Sml (x:Int):Prop:=x.natAbs < 2 ^ 3000
theorem nat {ys:List Int}{i:Nat}{x:V} (h:(ys.map V.int)[i]?=some x):∃z,ys[i]?=some z/\x=.int z:=by
 rw [List.getElem?_map] at h
 cases e:ys[i]? with
 | none=>rw [e] at h;cases h
 | some z=>rw [e] at h;cases h;exact⟨z,rfl,rfl⟩
theorem fE (f:Int->Int->Int):∀(i:Nat) (a b:List Int) (x y:Int),a[i]?=some x->b[i]?=some y->List.zipWith f (a.take (i + 1)) (b.take (i + 1))=List.zipWith f (a.take i) (b.take i)++[f x y]
 | 0,a::as,b::bs,x,y,h1,h2=>by cases h1;cases h2;simp
 | i + 1,a::as,b::bs,x,y,h1,h2=>by
  simp only [List.take_succ_cons,List.zipWith_cons_cons,List.cons_append]
  rw [fE f i as bs x y (by simpa using h1) (by simpa using h2)]
 | _,[],_,_,_,h1,_=>by simp at h1
 | _,_::_,[],_,_,_,h2=>by simp at h2
section
variable {P:Program}{w:World}{K:PySem.W.Frag}{mg:Str->Option Value}{base:Heap}
noncomputable abbrev cg (last:Int) (f row:List Int):List Int:=List.zipWith (fun a b=>Int.fdiv (a * f.headD 0 - row.headD 0 * b) last) row.tail f.tail
noncomputable def kc:Sp:=fun vs H Q _=>∃(a:Addr) (last:Int) (b:Bool) (rws:List (Addr×List Int)),vs=[.ref a,.int last]/\H a=some (.lst (aj rws))/\(∀r∈rws,aD H b r)/\rws≠[]/\(∀r∈rws,r.2.length=rws.length)/\rws.length<=8/\last≠0/\Sml last /\
 (∀r∈rws,∀x∈r.2,Sml x)/\∀(q:Addr) (rws':List (Addr×List Int)) (H':Hp),ae H H'->H q=none->H' q=some (.lst (aj rws'))->(∀r∈rws',aD H' true r)->rws'.map (·.2)=clr last (rws.map (·.2))->Q (.ref q) H'
noncomputable abbrev N17:List Str:=["left","last","first","told","row"]
theorem e8:aQ N17 ["left","last"] (aF (top 17)):=⟨rfl,rfl,rfl,by decide +kernel,rfl,by decide +kernel,by decide +kernel⟩
theorem lC {f:Addr}{fd:FuncData} (F:Fun K "cleared" "cleared" (top 17) f fd) (B:Bl mg):aH P w K mg base CX0 1 f fd ["left","last"] kc:=by
 refine F.ok e8 (fun vs H Q E h=>?_) (fun cdv A outer s H vs Q E hr h=>?_)
 ·obtain⟨a,last,b,rws,rfl,_⟩:=h
  rfl
 ·obtain⟨a,last,b,rws,rfl,ha,hrw,hne,hlen,h8,hl0,hlB,hB,k⟩:=h
  refine⟨_,ak (au (i:=2) e8.nd rfl (Or.inr rfl) (ay aG (pv 0) af (fun _ _=>rfl)))
   (ak (au (i:=3) e8.nd rfl (Or.inl rfl) (bV ab))
   (ak (bU PassesOwn.never rfl (b9 (cL dM (pv 0) (cN af) cP)) (aZ (i:=4) e8.nd rfl (Or.inr rfl))
    (aq (cR (bX PySem.F.plainAttrs_list PySem.F.slot_list_append PySem.F.type_list_append dE (pv 3) (aa (bb (N:=["one","other","first","row","last"]) (ix:=[none,none,some 2,some 4,some 1]) ⟨rfl,rfl,rfl,by decide⟩ rfl
     (jR (fT rfl B.zip (aa (cL dM (pv 4) (cN af) cP) (aa (cL dM (pv 2) (cN af) cP) ab)))
      (qL rfl B.zip (aa (cL jf (pv 4) (cN af) cP) (aa (cL jf (pv 2) (cN af) cP) ab))))
     (fun _ _ _ _=>dI K rfl (n:=2) (aR (aO 0 (by decide) rfl rfl) (aR (aO 1 (by decide) rfl rfl) bH))) (fun _ _ _ _=>a9)
     (fun _ _ _ _=>av mL (av cU (av dH (pv 0) (ay (bN K) (pv 2) af (fun _ _=>rfl))) (av dH (ay (bN K) (pv 3) af (fun _ _=>rfl)) (pv 1))) (pv 4))) ab)))))
   (aq (aI (pv 3))))),?_⟩
  cases rws with
  | nil=>exact absurd rfl hne
  | cons f0 R =>
  have hf0:=hrw f0 List.mem_cons_self
  have hfl:f0.2.length=R.length + 1:=hlen f0 List.mem_cons_self
  have h7:R.length<=7:=by simp at h8;omega
  refine⟨_,rfl,aB (j:=0) (.inl (SqL.of ha)) rfl rfl ?_⟩
  refine⟨Nat.zero_le _,fun q hq=>?_⟩
  have s1:=ao (o:=.lst []) (ae.refl H) hq
  have q1:upd H q (.lst []) q=some (.lst []):=ai
  generalize upd H q (.lst [])=H1 at s1 q1 ⊢
  refine⟨_,rfl,_,rfl,a,_,rfl,SqL.of (s1 _ _ ha),fun p hp=>?_⟩
  rw [dr]
  have nqp:q≠p:=ax q1 hp
  have s2:=ao (o:=.lst (List.drop 1 (aj (f0::R)))) s1 hp
  have q2:upd H1 p (.lst (List.drop 1 (aj (f0::R)))) q=some (.lst []):=by rw [ag nqp];exact q1
  have p2:upd H1 p (.lst (List.drop 1 (aj (f0::R)))) p=some (.lst (aj R)):=by rw [ai];rfl
  generalize upd H1 p (.lst (List.drop 1 (aj (f0::R))))=H2 at s2 q2 p2 ⊢
  refine⟨p,rfl,⟨_,SqL.of p2⟩,fu (K:=K) (a:=p) (xs:=aj R) (fun i σ H3=>(∃rws':List (Addr×List Int),rws'.map (·.2)=(R.take i).map (fun r=>cg last f0.2 r.2)/\H3 q=some (.lst (aj rws'))/\∀r∈rws',aD H3 true r/\r.1≠q)/\ae H H3/\H3 p=some (.lst (aj R))/\∃g,σ=[some (.ref a),some (.int last),some (.ref f0.1),some (.ref q),g])
   ⟨⟨[],by simp,q2,by simp⟩,s2,p2,_,rfl⟩ (fun i σ H3 _ z=>SqL.of z.2.2.1) ?_ ?_⟩
  ·rintro i x σ H3 hx ⟨⟨rws',hm,hq3,hr3⟩,s3,p3,g,rfl⟩
   rw [List.getElem?_map] at hx
   obtain⟨row,hrow,rfl⟩:∃row,R[i]?=some row/\x=.ref row.1:=by
    cases e:R[i]? with
    | none=>rw [e] at hx;cases hx
    | some z=>rw [e] at hx;cases hx;exact⟨z,rfl,rfl⟩
   have hil:i < R.length:=(List.getElem?_eq_some_iff.mp hrow).1
   have hrm:row∈f0::R:=List.mem_cons_of_mem _ (List.mem_of_getElem? hrow)
   have hrl:row.2.length=R.length + 1:=hlen row hrm
   have r3:=(hrw row hrm).same s3
   have f3:=hf0.same s3
   refine⟨_,rfl,.inl ⟨rfl,_,SqL.of hq3⟩,?_⟩
   have fin:∀(zs:List V) (H4:Hp),zs=(cg last f0.2 row.2).map V.int->ae H3 H4->∀n,H4 n=none->∃l xs y,V.ref q=.ref l/\[V.ref n]=[y]/\upd H4 n (.lst zs) l=some (.lst xs)/\xs.length < sizeLine /\
     ((fun σ H3=>(∃rws':List (Addr×List Int),rws'.map (·.2)=(R.take (i + 1)).map (fun r=>cg last f0.2 r.2)/\H3 q=some (.lst (aj rws'))/\∀r∈rws',aD H3 true r/\r.1≠q)/\ae H H3/\H3 p=some (.lst (aj R))/\∃g,σ=[some (.ref a),some (.int last),some (.ref f0.1),some (.ref q),g]):St->Hp->Prop)
      [some (.ref a),some (.int last),some (.ref f0.1),some (.ref q),some (.ref row.1)] (upd (upd H4 n (.lst zs)) l (.lst (xs++[y]))):=by
    rintro zs H4 rfl s4 n hn
    have nnq:n≠q:=(ax (s4 _ _ hq3) hn).symm
    have hl':rws'.length=i:=by have:=congrArg List.length hm;simp at this;omega
    refine⟨q,aj rws',_,rfl,rfl,by rw [ag nnq.symm];exact s4 _ _ hq3,fits (by simp;omega),⟨rws'++[(n,cg last f0.2 row.2)],?_,by rw [ai];simp [aj],fun r hr=>?_⟩,fun b o e=>?_,?_,_,rfl⟩
    ·rw [List.map_append,hm,List.take_add_one,hrow,List.map_append];rfl
    ·rcases List.mem_append.mp hr with z | z
     ·obtain⟨z1,z2⟩:=hr3 r z
      refine⟨?_,z2⟩
      show upd _ q _ r.1=_
      rw [ag z2,ag (ax (s4 _ _ z1) hn)]
      exact s4 _ _ z1
     ·have e:r=(n,cg last f0.2 row.2):=by simpa using z
      subst e
      refine⟨?_,nnq⟩
      show upd _ q _ n=_
      rw [ag nnq,ai];rfl
    ·rw [ag (ax e hq),ag (ax (s4 _ _ (s3 _ _ e)) hn)]
     exact s4 _ _ (s3 _ _ e)
    ·rw [ag nqp.symm,ag (ax (s4 _ _ p3) hn)]
     exact s4 _ _ p3
   obtain⟨c0,ct,hc⟩:∃c0 ct,f0.2=c0::ct:=by
    cases e:f0.2 with
    | nil=>rw [e] at hfl;simp at hfl
    | cons x l=>exact⟨x,l,rfl⟩
   obtain⟨d0,dt',hd⟩:∃d0 dt',row.2=d0::dt':=by
    cases e:row.2 with
    | nil=>rw [e] at hrl;simp at hrl
    | cons x l=>exact⟨x,l,rfl⟩
   have bc0:Sml c0:=hB f0 List.mem_cons_self c0 (by rw [hc];simp)
   have bd0:Sml d0:=hB row hrm d0 (by rw [hd];simp)
   have bct:∀x∈ct,Sml x:=fun x hx=>hB f0 List.mem_cons_self x (by rw [hc];simp [hx])
   have bdt:∀x∈dt',Sml x:=fun x hx=>hB row hrm x (by rw [hd];simp [hx])
   have hlt:dt'.length=ct.length:=by rw [hc] at hfl;rw [hd] at hrl;simp at hfl hrl;omega
   have hct8:ct.length<=8:=by rw [hc] at hfl;simp at hfl h8;omega
   have er:cg last f0.2 row.2=List.zipWith (fun a b=>Int.fdiv (a * c0 - d0 * b) last) dt' ct:=by unfold cg;rw [hc,hd];rfl
   have step:∀(j:Nat) (x y:V) (zs:List V) (Hx:Hp) (T:Addr) (g1 g2:Option V),(dt'.map V.int)[j]?=some x->(ct.map V.int)[j]?=some y->zs=(List.zipWith (fun a b=>Int.fdiv (a * c0 - d0 * b) last) (dt'.take j) (ct.take j)).map V.int->ae H3 Hx->Hx T=none ->
     ∃xa ya:Int,x=.int xa/\y=.int ya/\Sml xa/\Sml ya/\zs++[.int (Int.fdiv (xa * c0 - d0 * ya) last)]=(List.zipWith (fun a b=>Int.fdiv (a * c0 - d0 * b) last) (dt'.take (j + 1)) (ct.take (j + 1))).map V.int:=by
    intro j x y zs Hx T g1 g2 h1 h2 hz _ _
    obtain⟨xa,e1,rfl⟩:=nat h1
    obtain⟨ya,e2,rfl⟩:=nat h2
    refine⟨xa,ya,rfl,rfl,bdt xa (List.mem_of_getElem? e1),bct ya (List.mem_of_getElem? e2),?_⟩
    rw [fE _ j dt' ct xa ya e1 e2,List.map_append,hz];rfl
   have hfin:(List.zipWith (fun a b=>Int.fdiv (a * c0 - d0 * b) last) (dt'.take dt'.length) (ct.take dt'.length)).map V.int=(cg last f0.2 row.2).map V.int:=by
    rw [er,List.take_length,hlt,List.take_length]
   cases b with
   | true =>
    have r3':H3 row.1=some (.lst (V.int d0::dt'.map V.int)):=by rw [<- List.map_cons,<- hd];exact r3
    have f3':H3 f0.1=some (.lst (V.int c0::ct.map V.int)):=by rw [<- List.map_cons,<- hc];exact f3
    refine .inl ⟨_,rfl,_,rfl,row.1,_,rfl,SqL.of r3',fun p1 hp1=>?_⟩
    rw [dr]
    have s4:=ao (o:=.lst ((V.int d0::dt'.map V.int).drop 1)) (ae.refl H3) hp1
    have a4:upd H3 p1 (.lst ((V.int d0::dt'.map V.int).drop 1)) p1=some (.lst (dt'.map V.int)):=by rw [ai];rfl
    generalize upd H3 p1 (.lst ((V.int d0::dt'.map V.int).drop 1))=H4 at s4 a4 ⊢
    refine⟨_,rfl,_,rfl,f0.1,_,rfl,SqL.of (s4 _ _ f3'),fun p2 hp2=>?_⟩
    rw [dr]
    have s5:=ao (o:=.lst ((V.int c0::ct.map V.int).drop 1)) (ae.refl H4) hp2
    have a5:=s5 _ _ a4
    have b5:upd H4 p2 (.lst ((V.int c0::ct.map V.int).drop 1)) p2=some (.lst (ct.map V.int)):=by rw [ai];rfl
    have s35:=s4.trans s5
    generalize upd H4 p2 (.lst ((V.int c0::ct.map V.int).drop 1))=H5 at s5 a5 b5 s35 ⊢
    refine⟨p1,p2,_,_,rfl,SqL.of a5,SqL.of b5,?_⟩
    refine i5 (K:=K) (a:=p1) (b:=p2) (xs:=dt'.map V.int) (ys:=ct.map V.int) (by simp [hlt]) (fits (by simp;omega)) (fun j zs σ Hx=>zs=(List.zipWith (fun a b=>Int.fdiv (a * c0 - d0 * b) last) (dt'.take j) (ct.take j)).map V.int/\ae H5 Hx/\∃g1 g2,σ=[g1,g2,some (.ref f0.1),some (.ref row.1),some (.int last)])
     ⟨by simp,ae.refl _,_,_,rfl⟩ (fun j zs σ Hx hj z=>⟨by rw [z.1];simp;omega,SqL.of (z.2.1 _ _ a5),SqL.of (z.2.1 _ _ b5)⟩) ?_ ?_
    ·rintro j x y zs σ Hx T h1 h2 ⟨hz,sx,g1,g2,rfl⟩ hT
     obtain⟨xa,ya,rfl,rfl,bx,by',e⟩:=step j x y zs Hx T g1 g2 h1 h2 hz (s35.trans sx) hT
     have sT:=ao (o:=.tup [.int xa,.int ya]) (ae.refl Hx) hT
     have T3:upd Hx T (.tup [.int xa,.int ya]) T=some (.tup [.int xa,.int ya]):=ai
     generalize upd Hx T (.tup [.int xa,.int ya])=Hy at sT T3 ⊢
     have sy:=s35.trans (sx.trans sT)
     refine⟨T,_,rfl,SqT.of T3,rfl,_,_,rfl,_,_,rfl,rfl,?_⟩
     exact⟨_,rfl,_,rfl,aB (j:=0) (.inl (SqL.of (sy _ _ f3'))) rfl rfl ⟨_,_,rfl,rfl,⟨bx,bc0⟩,_,rfl,aB (j:=0) (.inl (SqL.of (sy _ _ r3'))) rfl rfl ⟨_,rfl,_,_,rfl,rfl,⟨bd0,by'⟩,_,_,rfl,rfl,_,rfl,_,_,rfl,rfl,⟨hl0,hlB⟩,e,sx.trans sT,_,_,rfl⟩⟩⟩
    ·rintro zs σ Hx ⟨hz,sx,g1,g2,rfl⟩ n hn
     rw [List.length_map] at hz
     exact fin zs Hx (hz.trans hfin) (s35.trans sx) n hn
   | false =>
    have r3':H3 row.1=some (.tup (V.int d0::dt'.map V.int)):=by rw [<- List.map_cons,<- hd];exact r3
    have f3':H3 f0.1=some (.tup (V.int c0::ct.map V.int)):=by rw [<- List.map_cons,<- hc];exact f3
    have ncut:∀(x:V) (l:List V),bw (x::l) (some 1) none≠x::l:=fun x l z=>by
     rw [dr] at z
     have:=congrArg List.length z
     simp at this
    refine .inr ⟨_,rfl,_,rfl,row.1,_,rfl,SqT.of r3',fun z=>absurd z (ncut _ _),fun p1 hp1=>?_⟩
    rw [dr]
    have s4:=ao (o:=.tup ((V.int d0::dt'.map V.int).drop 1)) (ae.refl H3) hp1
    have a4:upd H3 p1 (.tup ((V.int d0::dt'.map V.int).drop 1)) p1=some (.tup (dt'.map V.int)):=by rw [ai];rfl
    generalize upd H3 p1 (.tup ((V.int d0::dt'.map V.int).drop 1))=H4 at s4 a4 ⊢
    refine⟨_,rfl,_,rfl,f0.1,_,rfl,SqT.of (s4 _ _ f3'),fun z=>absurd z (ncut _ _),fun p2 hp2=>?_⟩
    rw [dr]
    have s5:=ao (o:=.tup ((V.int c0::ct.map V.int).drop 1)) (ae.refl H4) hp2
    have a5:=s5 _ _ a4
    have b5:upd H4 p2 (.tup ((V.int c0::ct.map V.int).drop 1)) p2=some (.tup (ct.map V.int)):=by rw [ai];rfl
    have s35:=s4.trans s5
    generalize upd H4 p2 (.tup ((V.int c0::ct.map V.int).drop 1))=H5 at s5 a5 b5 s35 ⊢
    refine⟨p1,p2,_,_,rfl,SqT.of a5,SqT.of b5,?_⟩
    refine nS (K:=K) (a:=p1) (b:=p2) (xs:=dt'.map V.int) (ys:=ct.map V.int) (by simp [hlt]) (fits (by simp;omega)) (fun j zs σ Hx=>zs=(List.zipWith (fun a b=>Int.fdiv (a * c0 - d0 * b) last) (dt'.take j) (ct.take j)).map V.int/\ae H5 Hx/\∃g1 g2,σ=[g1,g2,some (.ref f0.1),some (.ref row.1),some (.int last)])
     ⟨by simp,ae.refl _,_,_,rfl⟩ (fun j zs σ Hx hj z=>⟨by rw [z.1];simp;omega,SqT.of (z.2.1 _ _ a5),SqT.of (z.2.1 _ _ b5)⟩) ?_ ?_
    ·rintro j x y zs σ Hx T h1 h2 ⟨hz,sx,g1,g2,rfl⟩ hT
     obtain⟨xa,ya,rfl,rfl,bx,by',e⟩:=step j x y zs Hx T g1 g2 h1 h2 hz (s35.trans sx) hT
     have sT:=ao (o:=.tup [.int xa,.int ya]) (ae.refl Hx) hT
     have T3:upd Hx T (.tup [.int xa,.int ya]) T=some (.tup [.int xa,.int ya]):=ai
     generalize upd Hx T (.tup [.int xa,.int ya])=Hy at sT T3 ⊢
     have sy:=s35.trans (sx.trans sT)
     refine⟨T,_,rfl,SqT.of T3,rfl,_,_,rfl,_,_,rfl,rfl,?_⟩
     exact⟨_,rfl,_,rfl,aB (j:=0) (.inr (SqT.of (sy _ _ f3'))) rfl rfl ⟨_,_,rfl,rfl,⟨bx,bc0⟩,_,rfl,aB (j:=0) (.inr (SqT.of (sy _ _ r3'))) rfl rfl ⟨_,rfl,_,_,rfl,rfl,⟨bd0,by'⟩,_,_,rfl,rfl,_,rfl,_,_,rfl,rfl,⟨hl0,hlB⟩,e,sx.trans sT,_,_,rfl⟩⟩⟩
    ·rintro zs σ Hx ⟨hz,sx,g1,g2,rfl⟩ n hn
     rw [List.length_map] at hz
     exact fin zs Hx (hz.trans hfin) (s35.trans sx) n hn
  ·rintro σ H3 ⟨⟨rws',hm,hq3,hr3⟩,s3,p3,g,rfl⟩
   refine⟨_,rfl,k q rws' H3 s3 hq hq3 (fun r hr=>(hr3 r hr).1) ?_⟩
   rw [hm,List.length_map,List.take_length]
   simp [clr,cg]
end
theorem cO {n j:Nat} (h:j < n):ixN n (j:Int)=some j:=by
 unfold ixN
 simp
 omega
theorem jm {L:List (List Int)}{n:Nat} (h:∀row∈L,row.length=n) {row:List Int} (hr:row∈L) {x:Int} (hx:x∈row):∃i j,i < L.length/\j < n/\at2 L i j=x:=by
 obtain⟨i,hi,rfl⟩:=List.mem_iff_getElem.mp hr
 obtain⟨j,hj,rfl⟩:=List.mem_iff_getElem.mp hx
 refine⟨i,j,hi,by rw [<- h _ hr];exact hj,?_⟩
 unfold at2
 rw [List.getElem?_eq_getElem hi]
 simp [List.getElem?_eq_getElem hj]
theorem iP {rws:List (Addr×List Int)}{n:Nat} (h:∀r∈rws,r.2.length=n) (hn:0 < n) {i:Nat}{r:Addr×List Int} (hr:rws[i]?=some r):r.2[0]?=some (at2 (rws.map (·.2)) i 0):=by
 have h1:=h r (List.mem_of_getElem? hr)
 unfold at2
 rw [List.getElem?_map,hr]
 show r.2[0]?=some ((r.2[0]?).getD 0)
 rw [List.getElem?_eq_getElem (show 0 < r.2.length by omega)]
 rfl
noncomputable def flt (L:List (List Int)) (n:Nat):List Nat:=(List.range n).filter fun i=>!decide (at2 L i 0=0)
theorem iK (L:List (List Int)) (n:Nat):flt L (n + 1)=flt L n++if at2 L n 0=0 then [] else [n]:=by
 unfold flt
 rw [List.range_succ,List.filter_append]
 congr 1
 by_cases h:at2 L n 0=0
 ·simp [h]
 ·simp [h]
theorem pT (L:List (List Int)) (n:Nat):(flt L n).length<=n:=by
 have:=List.length_filter_le (fun i=>!decide (at2 L i 0=0)) (List.range n)
 rw [List.length_range] at this
 exact this
section
variable {P:Program}{w:World}{K:PySem.W.Frag}{mg:Str->Option Value}{base:Heap}
noncomputable def fY:Sp:=fun vs H Q _=>∃(a:Addr) (rws:List (Addr×List Int)),vs=[.ref a]/\H a=some (.tup (aj rws))/\(∀r∈rws,aD H false r)/\(∀r∈rws,r.2.length=rws.length)/\rws.length<=8/\(∀r∈rws,∀x∈r.2,x.natAbs<=2 ^ 128) /\
 ∀H',ae H H'->Q (.int (dt rws.length (at2 (rws.map (·.2))))) H'
noncomputable abbrev N18:List Str:=["rows","left","sign","last","filled","first"]
theorem cj:aQ N18 ["rows"] (aF (top 18)):=⟨rfl,rfl,rfl,by decide +kernel,rfl,by decide +kernel,by decide +kernel⟩
theorem pQ {f:Addr}{fd:FuncData} (F:Fun K "determinant" "determinant" (top 18) f fd) (B:Bl mg) (Fc:Fn P w K mg base 1 "cleared" ["left","last"] kc):aH P w K mg base CX0 2 f fd ["rows"] fY:=by
 refine F.ok cj (fun vs H Q E h=>?_) (fun cdv A outer s H vs Q E hr h=>?_)
 ·obtain⟨a,rws,rfl,_⟩:=h
  rfl
 ·obtain⟨a,rws0,rfl,ha,hrw0,hlen0,h8,hB,k⟩:=h
  refine⟨_,ak (au (i:=1) cj.nd rfl (Or.inl rfl) (bT kY rfl B.list ph (aa (pv 0) ab)))
   (ak (au (i:=2) cj.nd rfl (Or.inl rfl) af)
   (ak (au (i:=3) cj.nd rfl (Or.inl rfl) af)
   (ak (iS PassesOwn.never (aL dW (aw bc rfl B.len PySem.boot_len (aa (pv 1) ab)) af (aN _))
    (ak (dG (i:=4) (N:=["at","row"]) (ix:=[none,none]) cj.nd rfl (Or.inl rfl) ⟨rfl,rfl,rfl,by decide⟩ rfl (i7 rfl B.enumerate (aa (pv 1) ab)) (fun _ _ _ _=>dI K rfl (n:=2) (aR (aO 0 (by decide) rfl rfl) (aR (aO 1 (by decide) rfl rfl) bH)))
     (fun _ _ _ _=>dj (aL bv (ay (bN K) (pv 1) af (fun _ _=>rfl)) af (aN _))) (fun _ _ _ _=>pv 0))
    (ak (aV (aL cZ (aw bc rfl B.len PySem.boot_len (aa (pv 4) ab)) af (aN _)) (aq (aI af)) aS)
    (ak (aV (aL bv (ay aG (pv 4) af (fun _ _=>rfl)) af (aN _))
     (ak (cf (ce (aa (ay aG (pv 1) (ay aG (pv 4) af (fun _ _=>rfl)) (fun _ _=>rfl)) (aa (ay aG (pv 1) af (fun _ _=>rfl)) ab))) (cB rfl (n:=2) (aR (cS (pv 1) af set_list) (aR (cS (pv 1) (ay aG (pv 4) af (fun _ _=>rfl)) set_list) bH))))
      (aq (au (i:=2) cj.nd rfl (Or.inl rfl) (qz p4 (pv 2))))) aS)
    (ak (au (i:=5) cj.nd rfl (Or.inl rfl) (ay aG (ay aG (pv 1) af (fun _ _=>rfl)) af (fun _ _=>rfl)))
    (ak (au (i:=1) cj.nd rfl (Or.inl rfl) (ar Fc hr (aa (pv 1) (aa (pv 3) ab))))
    (aq (au (i:=3) cj.nd rfl (Or.inl rfl) (pv 5)))))))))
   (aq (aI (av dH (pv 2) (pv 3))))))),?_⟩
  have big:fac 8 * (2 ^ 128) ^ 8 < 2 ^ 3000:=by decide +kernel
  have hM0:∀r c,r < rws0.length->c < rws0.length->(at2 (rws0.map (·.2)) r c).natAbs<=2 ^ 128:=fun r c hr hc=>by
   unfold at2
   rw [List.getElem?_map,List.getElem?_eq_getElem hr]
   have h1:=hlen0 rws0[r] (List.getElem_mem hr)
   show ((rws0[r].2[c]?).getD 0).natAbs<=_
   rw [List.getElem?_eq_getElem (by omega)]
   exact hB _ (List.getElem_mem hr) _ (List.getElem_mem _)
  have Ba0:Bar rws0.length (at2 (rws0.map (·.2))) (rws0.map (·.2)) 1 1:=by
   have:=Bar.start (L:=rws0.map (·.2)) (fun row hrow=>by
    obtain⟨r,hr,rfl⟩:=List.mem_map.mp hrow
    rw [List.length_map];exact hlen0 r hr)
   rwa [List.length_map] at this
  generalize rws0.length=N at h8 hM0 Ba0 k
  generalize at2 (rws0.map (·.2))=M0 at hM0 Ba0 k
  refine⟨_,rfl,a,_,rfl,.inr (SqT.of ha),fun l0 hl0=>?_⟩
  have s1:=ao (o:=.lst (aj rws0)) (ae.refl H) hl0
  have l1:upd H l0 (.lst (aj rws0)) l0=some (.lst (aj rws0)):=ai
  generalize upd H l0 (.lst (aj rws0))=H1 at s1 l1 ⊢
  refine⟨fun m σ H4=>∃(l:Addr) (b:Bool) (rws:List (Addr×List Int)) (sign last:Int) (g4 g5:Option V),σ=[some (.ref a),some (.ref l),some (.int sign),some (.int last),g4,g5]/\rws.length=m/\H l=none/\H4 l=some (.lst (aj rws))/\(∀r∈rws,aD H4 b r)/\Bar N M0 (rws.map (·.2)) sign last/\ae H H4,
   ⟨_,l0,false,rws0,1,1,none,none,rfl,rfl,hl0,l1,fun r hr=>(hrw0 r hr).same s1,Ba0,s1⟩,?_⟩
  rintro m σ H4 ⟨l,b,rws,sign,last,g4,g5,rfl,rfl,hl,L4,R4,Ba,s4⟩
  refine⟨_,rfl,l,_,rfl,.inl (SqL.of L4),_,_,rfl,rfl,_,rfl,?_⟩
  have e0:decide (((aj rws).length:Int) > 0)=decide (rws≠[]):=by
   cases rws <;> simp <;> omega
  rw [e0]
  have hsq:∀r∈rws,r.2.length=rws.length:=fun r hr=>by
   obtain⟨_,_,_,h,_⟩:=Ba
   have:=h r.2 (List.mem_map.mpr ⟨r,hr,rfl⟩)
   rwa [List.length_map] at this
  have hlN:rws.length<=N:=by
   obtain⟨_,k,h,_⟩:=Ba
   rw [List.length_map] at h
   omega
  obtain⟨sml1,sml2⟩:=Ba.small hM0 Nat.one_le_two_pow h8
  have sgn:Sml sign:=by
   obtain⟨_,_,_,_,h,_⟩:=Ba
   show sign.natAbs < _
   rcases h with rfl | rfl
   ·exact Nat.one_lt_two_pow (by decide)
   ·exact Nat.one_lt_two_pow (by decide)
  have lsm:Sml last:=Nat.lt_of_le_of_lt sml1 big
  refine aX (fun c=>?_) (fun c=>?_)
  ·have hne:rws≠[]:=by simpa using c
   have hpos:0 < rws.length:=List.length_pos_iff.mpr hne
   refine⟨fun σ' H'=>∃(l:Addr) (b:Bool) (rws':List (Addr×List Int)) (sign last:Int) (g4 g5:Option V),σ'=[some (.ref a),some (.ref l),some (.int sign),some (.int last),g4,g5]/\rws'.length + 1=rws.length/\H l=none/\H' l=some (.lst (aj rws'))/\(∀r∈rws',aD H' b r)/\Bar N M0 (rws'.map (·.2)) sign last/\ae H H',
    fun σ' H' ⟨l,b,rws',sign,last,g4,g5,h1,h2,h3⟩=>⟨rws'.length,by omega,l,b,rws',sign,last,g4,g5,h1,rfl,h3⟩,?_⟩
   refine⟨_,rfl,l,_,rfl,SqL.of L4,?_⟩
   refine mC (K:=K) (xs:=aj rws) (fits (by simp;omega)) (fun j zs σ Hx=>zs=(flt (rws.map (·.2)) j).map (fun i:Nat=>V.int i)/\ae H4 Hx/\∃g1 g2,σ=[g1,g2]) ⟨rfl,ae.refl _,_,_,rfl⟩ (fun j zs σ Hx hj z=>⟨by rw [z.1,List.length_map];exact pT _ _,SqL.of (z.2.1 _ _ L4)⟩) ?_ ?_
   ·rintro j x zs σ Hx T hx ⟨hz,sx,g1,g2,rfl⟩ hT
    rw [List.getElem?_map] at hx
    obtain⟨row,hrow,rfl⟩:∃row,rws[j]?=some row/\x=.ref row.1:=by
     cases e:rws[j]? with
     | none=>rw [e] at hx;cases hx
     | some z=>rw [e] at hx;cases hx;exact⟨z,rfl,rfl⟩
    have sT:=ao (o:=.tup [.int j,.ref row.1]) (ae.refl Hx) hT
    have T3:upd Hx T (.tup [.int j,.ref row.1]) T=some (.tup [.int j,.ref row.1]):=ai
    generalize upd Hx T (.tup [.int j,.ref row.1])=Hy at sT T3 ⊢
    have r4:=((R4 row (List.mem_of_getElem? hrow)).same (sx.trans sT)).sq (K:=K)
    have h0:=iP hsq hpos hrow
    refine⟨T,_,rfl,SqT.of T3,rfl,_,_,rfl,_,_,rfl,rfl,?_⟩
    refine⟨_,rfl,aB (j:=0) r4 rfl (by rw [List.getElem?_map,h0];rfl) ⟨rfl,_,rfl,?_⟩⟩
    have e:(!decide (V.int (at2 (rws.map (·.2)) j 0)=V.int 0))=!decide (at2 (rws.map (·.2)) j 0=0):=by simp
    rw [e]
    refine aX (fun c=>⟨_,rfl,?_,sx.trans sT,_,_,rfl⟩) (fun c=>⟨?_,sx.trans sT,_,_,rfl⟩)
    ·rw [iK,if_neg (by simpa using c),List.map_append,hz];rfl
    ·rw [iK,if_pos (by simpa using c),List.append_nil];exact hz
   rintro zs σ Hx ⟨hz,sx,g1,g2,rfl⟩ fi hfi
   rw [List.length_map] at hz
   have s5:=ao (o:=.lst zs) sx hfi
   have f5:upd Hx fi (.lst zs) fi=some (.lst zs):=ai
   have hf0:H4 fi=none:=sx.free hfi
   generalize upd Hx fi (.lst zs)=H5 at s5 f5 ⊢
   subst hz
   have L5:=s5 _ _ L4
   refine⟨_,rfl,fi,_,rfl,.inl (SqL.of f5),rfl,_,rfl,?_⟩
   have e1:decide (V.int (((flt (rws.map (·.2)) rws.length).map (fun i:Nat=>V.int i)).length:Int)=V.int 0)=decide (flt (rws.map (·.2)) rws.length=[]):=by
    cases flt (rws.map (·.2)) rws.length <;> simp <;> omega
   rw [e1]
   refine aX (fun c=>?_) (fun c=>?_)
   ·
    have hz0:dt N M0=0:=Ba.zero (by simpa using hne) fun r hr=>by
     rw [List.length_map] at hr
     have c':flt (rws.map (·.2)) rws.length=[]:=by simpa using c
     cases hd:decide (at2 (rws.map (·.2)) r 0=0) with
     | true=>exact of_decide_eq_true hd
     | false =>
      have:r∈flt (rws.map (·.2)) rws.length:=List.mem_filter.mpr ⟨List.mem_range.mpr hr,by rw [hd];rfl⟩
      rw [c'] at this
      simp at this
    have:=k H5 (s4.trans s5)
    rw [hz0] at this
    exact this
   ·
    have hnf:flt (rws.map (·.2)) rws.length≠[]:=by simpa using c
    obtain⟨ff,ft,hff⟩:∃ff ft,flt (rws.map (·.2)) rws.length=ff::ft:=by
     cases e:flt (rws.map (·.2)) rws.length with
     | nil=>exact absurd e hnf
     | cons x l=>exact⟨x,l,rfl⟩
    have hfm:ff∈flt (rws.map (·.2)) rws.length:=by rw [hff];simp
    obtain⟨hfl,hfn⟩:=List.mem_filter.mp hfm
    have hfl:ff < rws.length:=List.mem_range.mp hfl
    have hfn:at2 (rws.map (·.2)) ff 0≠0:=by simpa using hfn
    rw [hff] at f5
    clear hff e1 c hnf hfm
    unfold jT
    dsimp only
    refine gb (fun σ' H'=>∃(rws':List (Addr×List Int)) (sign':Int) (g5:Option V),σ'=[some (.ref a),some (.ref l),some (.int sign'),some (.int last),some (.ref fi),g5]/\rws'.length=rws.length/\H' l=some (.lst (aj rws'))/\(∀r∈rws',aD H' b r)/\Bar N M0 (rws'.map (·.2)) sign' last/\at2 (rws'.map (·.2)) 0 0≠0/\ae H H') (fun Nx key=>?_) ?_
    ·refine⟨_,rfl,aB (j:=0) (.inl (SqL.of f5)) rfl rfl ⟨rfl,_,rfl,?_⟩⟩
     have e2:(!decide (V.int (ff:Int)=V.int 0))=!decide (ff=0):=by simp
     rw [e2]
     refine aX (fun c=>?_) (fun c=>?_)
     ·have hf1:ff≠0:=by simpa using c
      have g1:(aj rws)[ff]?=some (.ref rws[ff].1):=by rw [List.getElem?_map,List.getElem?_eq_getElem hfl];rfl
      have g0:(aj rws)[0]?=some (.ref rws[0].1):=by rw [List.getElem?_map,List.getElem?_eq_getElem hpos];rfl
      refine⟨_,rfl,_,rfl,aB (j:=0) (.inl (SqL.of f5)) rfl rfl (aB (j:=ff) (.inl (SqL.of L5)) rfl g1 ⟨_,rfl,aB (j:=0) (.inl (SqL.of L5)) rfl g0 ⟨by show 2<=sizeLine;decide,fun T hT=>?_⟩⟩)⟩
      have s6:=ao (o:=.tup [.ref rws[ff].1,.ref rws[0].1]) (ae.refl H5) hT
      have T6:upd H5 T (.tup [.ref rws[ff].1,.ref rws[0].1]) T=some (.tup [.ref rws[ff].1,.ref rws[0].1]):=ai
      generalize upd H5 T (.tup [.ref rws[ff].1,.ref rws[0].1])=H6 at s6 T6 ⊢
      have L6:=s6 _ _ L5
      have f6:=s6 _ _ f5
      have nlf:fi≠l:=(ax L4 hf0).symm
      refine⟨T,_,rfl,SqT.of T6,rfl,_,_,rfl,_,rfl,l,_,_,0,rfl,rfl,L6,cO (by simp;omega),?_⟩
      have L7:upd H6 l (.lst ((aj rws).set 0 (.ref rws[ff].1))) l=some (.lst ((aj rws).set 0 (.ref rws[ff].1))):=ai
      have f7:upd H6 l (.lst ((aj rws).set 0 (.ref rws[ff].1))) fi=some (.lst (.int (ff:Int)::ft.map (fun i:Nat=>V.int i))):=by rw [ag nlf];exact f6
      have o7:∀b o,b≠l->H5 b=some o->upd H6 l (.lst ((aj rws).set 0 (.ref rws[ff].1))) b=some o:=fun b o hb e=>by rw [ag hb];exact s6 _ _ e
      generalize upd H6 l (.lst ((aj rws).set 0 (.ref rws[ff].1)))=H7 at L7 f7 o7 ⊢
      refine⟨_,_,rfl,_,rfl,_,rfl,aB (j:=0) (.inl (SqL.of f7)) rfl rfl ⟨l,_,_,ff,rfl,rfl,L7,cO (by simp;omega),rfl,?_⟩⟩
      refine⟨_,rfl,_,rfl,key _ _ ⟨(rws.set 0 rws[ff]).set ff rws[0],-sign,_,rfl,by simp,?_,fun r hr=>?_,?_,?_,fun b o e=>?_⟩⟩
      ·rw [ai]
       unfold aj
       rw [List.map_set,List.map_set]
      ·have hr':r∈rws:=by
        rcases List.mem_or_eq_of_mem_set hr with z | z
        ·rcases List.mem_or_eq_of_mem_set z with z | z
         ·exact z
         ·rw [z];exact List.getElem_mem _
        ·rw [z];exact List.getElem_mem _
       have r5:=(R4 r hr').same s5
       have hrl:r.1≠l:=fun z=>by
        have q:=R4 r hr'
        unfold aD at q
        rw [z,L4] at q
        have q:=Option.some.inj q
        unfold sqO at q
        split at q
        ·have q:=HO.lst.inj q
         have q':=congrArg (fun x:List V=>x[0]?) q
         simp only [g0,List.getElem?_map] at q'
         cases hx:r.2[0]? with
         | none=>rw [hx] at q';cases q'
         | some x=>rw [hx] at q';cases q'
        ·cases q
       unfold aD
       rw [ag hrl]
       exact o7 _ _ hrl r5
      ·have e3:((rws.set 0 rws[ff]).set ff rws[0]).map (·.2)=swL (rws.map (·.2)) ff:=by
        unfold swL
        rw [List.map_set,List.map_set,List.getElem?_map,List.getElem?_map,List.getElem?_eq_getElem hfl,List.getElem?_eq_getElem hpos]
        rfl
       rw [e3]
       exact Ba.swap (by rw [List.length_map];exact hfl) hf1
      ·have e3:((rws.set 0 rws[ff]).set ff rws[0]).map (·.2)=swL (rws.map (·.2)) ff:=by
        unfold swL
        rw [List.map_set,List.map_set,List.getElem?_map,List.getElem?_map,List.getElem?_eq_getElem hfl,List.getElem?_eq_getElem hpos]
        rfl
       rw [e3,jr (by rw [List.length_map];exact hfl) hf1 (by rw [List.length_map];exact hpos)]
       simpa [swp] using hfn
      ·have hbl:=ax e hl
       rw [ag hbl]
       exact o7 _ _ hbl (s5 _ _ (s4 _ _ e))
     ·have hf1:ff=0:=by simpa using c
      subst hf1
      exact key _ _ ⟨rws,sign,_,rfl,rfl,L5,fun r hr=>(R4 r hr).same s5,Ba,hfn,s4.trans s5⟩
    ·rintro σ' H' ⟨rws',sign',g5',rfl,hl',L6,R6,Ba',hp',s6⟩
     have hpos':0 < rws'.length:=hl'.symm ▸ hpos
     have h8':rws'.length<=8:=Nat.le_trans (Nat.le_of_eq hl') (Nat.le_trans hlN h8)
     have hsq':∀r∈rws',r.2.length=rws'.length:=fun r hr=>by
      obtain⟨_,_,_,h,_⟩:=Ba'
      have:=h r.2 (List.mem_map.mpr ⟨r,hr,rfl⟩)
      rwa [List.length_map] at this
     obtain⟨sm1,sm2⟩:=Ba'.small hM0 Nat.one_le_two_pow h8
     have g0:(aj rws')[0]?=some (.ref rws'[0].1):=by rw [List.getElem?_map,List.getElem?_eq_getElem hpos'];rfl
     have h0:=iP hsq' hpos' (List.getElem?_eq_getElem hpos')
     refine⟨_,rfl,aB (j:=0) (.inl (SqL.of L6)) rfl g0 (aB (j:=0) ((R6 _ (List.getElem_mem hpos')).sq) rfl (by rw [List.getElem?_map,h0];rfl) ?_)⟩
     have nn':rws'≠[]:=List.length_pos_iff.mp hpos'
     refine⟨_,rfl,_,rfl,l,last,b,rws',rfl,L6,R6,nn',hsq',h8',Ba'.ne,lsm,fun r hr x hx=>?_,fun q rws2 H2 s2 hq hq2 hr2 hm2=>?_⟩
     ·obtain⟨i,j,hi,hj,rfl⟩:=jm (L:=rws'.map (·.2)) (n:=rws'.length) (fun row hrow=>by
       obtain⟨r,hr,rfl⟩:=List.mem_map.mp hrow
       exact hsq' r hr) (List.mem_map.mpr ⟨r,hr,rfl⟩) hx
      exact Nat.lt_of_le_of_lt (sm2 i j hi (by rw [List.length_map];exact hj)) big
     ·refine⟨_,rfl,q,true,rws2,sign',_,_,_,rfl,?_,s6.free hq,hq2,hr2,?_,s6.trans s2⟩
      ·have:=congrArg List.length hm2
       rw [List.length_map] at this
       cases hc:rws' with
       | nil=>exact absurd hc nn'
       | cons x l =>
        rw [hc] at this hl'
        have e2:rws2.length=l.length:=by simpa [clr] using this
        rw [e2]
        exact hl'
      ·rw [hm2]
       exact Ba'.clear (by simpa using nn') hp'
  ·have hn:rws=[]:=by simpa using c
   subst hn
   have:=Ba.done
   refine⟨_,rfl,_,rfl,_,_,rfl,rfl,⟨sgn,lsm⟩,?_⟩
   have q:=k H4 s4
   rw [<- this] at q
   exact q
end
noncomputable def others (ps:List Str) (root:Str):List Str:=ps.filter fun y=>!decide (y=root)
theorem ee {ps:List Str}{root x:Str}:x∈others ps root ↔ x∈ps/\x≠root:=by
 unfold others
 rw [List.mem_filter]
 simp
noncomputable def ixo (O:List Str) (x:Str):Nat:=O.idxOf x
theorem dm {O:List Str}{x:Str} (h:x∈O):ixo O x < O.length:=List.idxOf_lt_length_of_mem h
theorem eP {O:List Str}{x:Str} (h:x∈O):O[ixo O x]?=some x:=by
 have h1:=dm h
 rw [List.getElem?_eq_getElem h1]
 exact congrArg some (List.getElem_idxOf h1)
noncomputable def tis (O:List Str) (root:Str) (rs:List Row):List Ti:=(rs.filter fun r=>!decide (r.2.2=root)).map fun r=>(if r.2.1=root then none else some (ixo O r.2.1),ixo O r.2.2)
noncomputable def KvO (O:List Str) (kvs:List (Key×V)) (i:Nat):Prop:=kvs.length=i/\(∀m x,m < i->O[m]?=some x->aW kvs (.inr x)=some (.int m))/\∀x,x∉O.take i->aW kvs (.inr x)=none
theorem mP {kvs:List (Key×V)}{k:Key}{v:V} (h:aW kvs k=none):putK kvs k v=kvs++[(k,v)]:=by
 unfold putK
 rw [cK,h]
 rfl
theorem KvO.step {O:List Str}{kvs:List (Key×V)}{i:Nat}{x:Str} (h:KvO O kvs i) (nd:O.Nodup) (hx:O[i]?=some x):KvO O (putK kvs (.inr x) (.int i)) (i + 1):=by
 obtain⟨h1,h2,h3⟩:=h
 obtain⟨hi,ei⟩:=List.getElem?_eq_some_iff.mp hx
 have hnew:x∉O.take i:=fun z=>by
  obtain⟨m,hm,em⟩:=List.mem_iff_getElem.mp z
  rw [List.getElem_take,<- ei] at em
  have:=(List.getElem_inj nd).mp em
  simp at hm
  omega
 refine⟨by rw [mP (h3 x hnew)];simp [h1],fun m y hm hy=>?_,fun y hy=>?_⟩
 ·rw [iR]
  by_cases e:m=i
  ·subst e
   rw [hx] at hy
   cases hy
   rw [if_pos rfl]
  ·have hne:¬ (Sum.inr y:Key)=Sum.inr x:=fun q=>by
    have q':y=x:=Sum.inr.inj q
    obtain⟨hm',em⟩:=List.getElem?_eq_some_iff.mp hy
    rw [<- em,<- ei] at q'
    exact e ((List.getElem_inj nd).mp q')
   rw [if_neg hne]
   exact h2 m y (by omega) hy
 ·have hy1:y∉O.take i:=fun z=>hy (by rw [List.take_add_one];exact List.mem_append_left _ z)
  have hy2:y≠x:=fun z=>hy (by rw [List.take_add_one,hx,z];exact List.mem_append_right _ (by simp))
  rw [iR,if_neg (fun q=>hy2 (Sum.inr.inj q))]
  exact h3 y hy1
theorem KvO.get {O:List Str}{kvs:List (Key×V)}{x:Str} (h:KvO O kvs O.length) (hx:x∈O):aW kvs (.inr x)=some (.int (ixo O x)):=h.2.1 _ _ (dm hx) (eP hx)
structure Tb (H0 H:Hp) (q:Addr) (rws:List (Addr×List Int)):Prop where
 l:H q=some (.lst (aj rws))
 r:∀r∈rws,aD H true r/\r.1≠q/\H0 r.1=none
 nd:(rws.map (·.1)).Nodup
 q0:H0 q=none
noncomputable def bmp (rws:List (Addr×List Int)) (x y:Nat) (d:Int):List (Addr×List Int):=rws.modify x fun r=>(r.1,r.2.modify y (· + d))
theorem iA (rws:List (Addr×List Int)) (x y:Nat) (d:Int):(bmp rws x y d).map (·.1)=rws.map (·.1):=by
 refine List.ext_getElem? fun i=>?_
 unfold bmp
 rw [List.getElem?_map,List.getElem?_map,List.getElem?_modify]
 cases rws[i]? with
 | none=>rfl
 | some r=>by_cases e:x=i <;> simp [e]
theorem nj (rws:List (Addr×List Int)) (x y:Nat) (d:Int):aj (bmp rws x y d)=aj rws:=by
 have h:=congrArg (List.map V.ref) (iA rws x y d)
 rwa [List.map_map,List.map_map] at h
theorem eJ (rws:List (Addr×List Int)) (x y:Nat) (d:Int):(bmp rws x y d).length=rws.length:=by simp [bmp]
theorem eS (rws:List (Addr×List Int)) (x y:Nat) (d:Int) (n:Nat) (hn:rws.length=n) (hr:∀r∈rws,r.2.length=n) (i j:Nat) (hi:i < n) (hj:j < n):at2 ((bmp rws x y d).map (·.2)) i j=at2 (rws.map (·.2)) i j + if i=x/\j=y then d else 0:=by
 unfold at2 bmp
 have hi':i < rws.length:=by omega
 have h1:=hr rws[i] (List.getElem_mem hi')
 rw [List.getElem?_map,List.getElem?_map,List.getElem?_modify,List.getElem?_eq_getElem hi']
 by_cases e:x=i
 ·subst e
  simp only [Option.map_eq_map,Option.map_some,if_true,Option.getD_some,List.getElem?_modify,List.getElem?_eq_getElem (show j < rws[x].2.length by omega)]
  by_cases e2:y=j
  ·simp [e2]
  ·simp [e2,Ne.symm e2]
 ·have:¬ (i=x/\j=y):=fun z=>e z.1.symm
  simp [e,this]
theorem eD (rws:List (Addr×List Int)) (x y:Nat) (d:Int) (n:Nat) (hr:∀r∈rws,r.2.length=n):∀r∈bmp rws x y d,r.2.length=n:=fun r h=>by
 obtain⟨i,hi⟩:=List.getElem?_of_mem h
 unfold bmp at hi
 rw [List.getElem?_modify] at hi
 cases e:rws[i]? with
 | none=>rw [e] at hi;cases hi
 | some z =>
  rw [e] at hi
  have:=hr z (List.mem_of_getElem? e)
  by_cases c:x=i
  ·simp [c] at hi
   rw [<- hi]
   simp [this]
  ·simp [c] at hi
   rw [<- hi];exact this
theorem Tb.bump {H0 H:Hp}{q:Addr}{rws:List (Addr×List Int)} (T:Tb H0 H q rws) {x y:Nat}{r:Addr×List Int}{v:Int} (hx:rws[x]?=some r) (hy:r.2[y]?=some v) (d:Int):Tb H0 (upd H r.1 (.lst ((r.2.map V.int).set y (.int (v + d))))) q (bmp rws x y d):=by
 have hrm:=List.mem_of_getElem? hx
 obtain⟨a1,a2,a3⟩:=T.r r hrm
 obtain⟨hx',ex⟩:=List.getElem?_eq_some_iff.mp hx
 refine⟨?_,fun z hz=>?_,by rw [iA];exact T.nd,T.q0⟩
 ·rw [ag a2.symm,nj];exact T.l
 ·obtain⟨i,hi⟩:=List.getElem?_of_mem hz
  unfold bmp at hi
  rw [List.getElem?_modify] at hi
  cases e:rws[i]? with
  | none=>rw [e] at hi;cases hi
  | some u =>
   rw [e] at hi
   obtain⟨b1,b2,b3⟩:=T.r u (List.mem_of_getElem? e)
   by_cases c:x=i
   ·subst c
    rw [hx] at e
    cases e
    simp at hi
    rw [<- hi]
    refine⟨?_,a2,a3⟩
    show upd _ r.1 _ r.1=some (sqO true _)
    rw [ai]
    show some (HO.lst _)=some (HO.lst _)
    congr 2
    refine List.ext_getElem? fun j=>?_
    rw [List.getElem?_map,List.getElem?_modify,List.getElem?_set,List.getElem?_map,List.length_map]
    by_cases c2:y=j
    ·subst c2
     have hyl:=(List.getElem?_eq_some_iff.mp hy).1
     simp [hyl]
     exact ((List.getElem?_eq_some_iff.mp hy).2).symm
    ·simp [c2]
   ·simp [c] at hi
    rw [<- hi]
    refine⟨?_,b2,b3⟩
    have hne:u.1≠r.1:=fun z=>by
     obtain⟨hi',ei⟩:=List.getElem?_eq_some_iff.mp e
     have h1:(rws.map (·.1))[x]'(by simpa using hx')=(rws.map (·.1))[i]'(by simpa using hi'):=by simp [ex,ei,z]
     exact c ((List.getElem_inj T.nd).mp h1)
    show upd _ r.1 _ u.1=_
    rw [ag hne];exact b1
theorem eu (E:List Ti) (t:Ti) (r c:Nat):tab (E++[t]) r c=tab E r c + if t.2=c then one t r else 0:=by
 unfold tab
 rw [List.filter_append,List.map_append,List.sum_append]
 congr 1
 by_cases h:t.2=c
 ·simp [h]
 ·simp [h]
theorem iM {O:List Str}{root:Str}{rs:List Row}{i:Nat}{r:Row} (h:rs[i]?=some r):tis O root (rs.take (i + 1))=tis O root (rs.take i)++if r.2.2=root then [] else [(if r.2.1=root then none else some (ixo O r.2.1),ixo O r.2.2)]:=by
 unfold tis
 rw [List.take_add_one,h,List.filter_append,List.map_append]
 congr 1
 by_cases c:r.2.2=root
 ·simp [c]
 ·simp [c]
theorem e7 {rws:List (Addr×List Int)}{n:Nat} (hn:rws.length=n) (hr:∀r∈rws,r.2.length=n) {x y:Nat} (hx:x < n) (hy:y < n):∃r v,rws[x]?=some r/\r.2[y]?=some v:=by
 have hx':x < rws.length:=by omega
 refine⟨rws[x],rws[x].2[y]'(by rw [hr _ (List.getElem_mem hx')];exact hy),List.getElem?_eq_getElem hx',List.getElem?_eq_getElem _⟩
section
variable {P:Program}{w:World}{K:PySem.W.Frag}{mg:Str->Option Value}{base:Heap}
noncomputable def jW:Sp:=fun vs H Q _=>∃(pa ra:Addr) (root:Str) (ps:List Str) (rs:List (Addr×Row)),vs=[.ref pa,.str root,.ref ra]/\H pa=some (.tup (ps.map V.str))/\(H ra=some (.lst (aM rs))\/H ra=some (.tup (aM rs)))/\(∀r∈rs,dS H r.1 r.2) /\
 ps.Nodup/\ps.length<=8/\rs.length<=60/\(∀r∈rs,r.2.2.1∈ps/\r.2.2.2∈ps) /\
 ∀(q:Addr) (rws:List (Addr×List Int)) (H':Hp),ae H H'->H' q=some (.tup (aj rws))->(∀r∈rws,aD H' false r)->rws.length=(others ps root).length->(∀r∈rws,r.2.length=(others ps root).length) ->
  (∀i j,i < (others ps root).length->j < (others ps root).length->at2 (rws.map (·.2)) i j=tab (tis (others ps root) root (rs.map (·.2))) i j)->Q (.ref q) H'
noncomputable abbrev N15:List Str:=["places","root","rows","at","told","name","start","end"]
theorem dz:aQ N15 ["places","root","rows"] (aF (top 15)):=⟨rfl,rfl,rfl,by decide +kernel,rfl,by decide +kernel,by decide +kernel⟩
theorem mT {f:Addr}{fd:FuncData} (F:Fun K "table_of" "table_of" (top 15) f fd) (B:Bl mg):aH P w K mg base CX0 1 f fd ["places","root","rows"] jW:=by
 refine F.ok dz (fun vs H Q E h=>?_) (fun cdv A outer s H vs Q E hr h=>?_)
 ·obtain⟨pa,ra,root,ps,rs,rfl,_⟩:=h
  rfl
 ·obtain⟨pa,ra,root,ps,rs,rfl,hpa,hra,hrow,pnd,p8,r60,hin,k⟩:=h
  refine⟨_,ak (au (i:=3) dz.nd rfl (Or.inr rfl) (pS (N:=["number","place"]) (ix:=[none,none]) ⟨rfl,rfl,rfl,by decide⟩ rfl
     (i7 rfl B.enumerate (aa (bb (N:=["one","root"]) (ix:=[none,some 1]) ⟨rfl,rfl,rfl,by decide⟩ rfl (cb (pv 0)) (fun _ _ _ _=>aO 0 (by decide) rfl rfl) (fun _ _ _ _=>dj (aL bv (pv 0) (pv 1) (aN _))) (fun _ _ _ _=>pv 0)) ab))
     (fun _ _ _ _=>dI K rfl (n:=2) (aR (aO 0 (by decide) rfl rfl) (aR (aO 1 (by decide) rfl rfl) bH))) (fun _ _ _ _=>a9) (fun _ _ _ _=>pv 1) (fun _ _ _ _=>pv 0)))
   (ak (dG (i:=4) (N:=["place","at"]) (ix:=[none,some 3]) dz.nd rfl (Or.inl rfl) ⟨rfl,rfl,rfl,by decide⟩ rfl (mR (pv 3)) (fun _ _ _ _=>aO 0 (by decide) rfl rfl) (fun _ _ _ _=>a9)
     (fun _ _ _ _=>av jH (bV (aa af ab)) (aw lL rfl B.len PySem.boot_len (aa (pv 1) ab))))
   (ak (bU PassesOwn.never rfl (jR (b9 (pv 2)) (cb (pv 2))) (cB rfl (n:=3) (aR (aZ (i:=5) dz.nd rfl (Or.inl rfl)) (aR (aZ (i:=6) dz.nd rfl (Or.inl rfl)) (aR (aZ (i:=7) dz.nd rfl (Or.inl rfl)) bH))))
    (aq (aV (aL bv (pv 7) (pv 1) (aN _))
     (ak (iV (ay aG (pv 4) (di (cH hr) (pv 3) (pv 7) (fun _ _=>rfl)) (fun _ _=>rfl)) (di (cH hr) (pv 3) (pv 7) (fun _ _=>rfl)) iN af pN set_list)
     (aq (aV (aL bv (pv 6) (pv 1) (aN _)) (aq (iV (ay aG (pv 4) (di (cH hr) (pv 3) (pv 6) (fun _ _=>rfl)) (fun _ _=>rfl)) (di (cH hr) (pv 3) (pv 7) (fun _ _=>rfl)) iN af pB set_list)) aS))) aS)))
   (aq (aI (bT cJ rfl B.tuple bB (aa (bb (N:=["row"]) (ix:=[none]) ⟨rfl,rfl,rfl,by decide⟩ rfl (b9 (pv 4)) (fun _ _ _ _=>aO 0 (by decide) rfl rfl) (fun _ _ _ _=>a9) (fun _ _ _ _=>bT (fg K) rfl B.tuple bB (aa (pv 0) ab))) ab)))))),?_⟩
  have ond:(others ps root).Nodup:=pnd.filter _
  have o8:(others ps root).length<=8:=Nat.le_trans (List.length_filter_le _ _) p8
  have hk2:∀(O:List Str),O=others ps root->∀(q:Addr) (rws:List (Addr×List Int)) (H':Hp),ae H H'->H' q=some (.tup (aj rws))->(∀r∈rws,aD H' false r)->rws.length=O.length->(∀r∈rws,r.2.length=O.length) ->
   (∀i j,i < O.length->j < O.length->at2 (rws.map (·.2)) i j=tab (tis O root (rs.map (·.2))) i j)->Q (.ref q) H':=by rintro O rfl;exact k
  have hin2:∀r∈rs,(r.2.2.1≠root->r.2.2.1∈others ps root)/\(r.2.2.2≠root->r.2.2.2∈others ps root):=fun r hr=>⟨fun z=>ee.mpr ⟨(hin r hr).1,z⟩,fun z=>ee.mpr ⟨(hin r hr).2,z⟩⟩
  refine⟨_,rfl,pa,rfl,⟨_,SqT.of hpa⟩,?_⟩
  refine eI (K:=K) (xs:=ps.map V.str) (fits (by simp;omega)) (fun i zs σ H2=>zs=((ps.take i).filter fun y=>!decide (y=root)).map V.str/\H2=H/\∃g,σ=[g,some (.str root)]) ⟨rfl,rfl,_,rfl⟩
   (fun i zs σ H2 hi z=>⟨by rw [z.1,List.length_map];exact Nat.le_trans (List.length_filter_le _ _) (by simp;omega),by rw [z.2.1];exact SqT.of hpa⟩) ?_ ?_
  ·rintro i x zs σ H2 hx ⟨rfl,rfl,g,rfl⟩
   rw [List.getElem?_map] at hx
   obtain⟨z,hz,rfl⟩:∃z,ps[i]?=some z/\x=.str z:=by
    cases e:ps[i]? with
    | none=>rw [e] at hx;cases hx
    | some z=>rw [e] at hx;cases hx;exact⟨z,rfl,rfl⟩
   have tf:=dC (fun y:Str=>!decide (y=root)) ps i z hz
   refine⟨_,rfl,_,rfl,rfl,_,rfl,?_⟩
   have e:(!decide (V.str z=V.str root))=!decide (z=root):=by simp
   rw [e]
   refine aX (fun c=>⟨_,rfl,?_,rfl,_,rfl⟩) (fun c=>⟨?_,rfl,_,rfl⟩)
   ·rw [tf,c];simp
   ·rw [tf];simp only [Bool.not_eq_true] at c;rw [c];simp
  rintro zs σ H2 ⟨rfl,rfl,g,rfl⟩ ol hol
  rw [take_all ps (by simp)]
  rw [show (ps.filter fun y=>!decide (y=root))=others ps root from rfl]
  generalize hO:others ps root=O at ond o8 hin2
  have hk:=hk2 O hO.symm
  clear hk2 k
  have s1:=ao (o:=.lst (O.map V.str)) (ae.refl H2) hol
  have o1:upd H2 ol (.lst (O.map V.str)) ol=some (.lst (O.map V.str)):=ai
  generalize upd H2 ol (.lst (O.map V.str))=H3 at s1 o1 ⊢
  refine⟨ol,_,rfl,SqL.of o1,fun D hD=>?_⟩
  have hD2:=s1.free hD
  refine mq (K:=K) (a:=ol) (xs:=O.map V.str) (fun i σ H4=>ae H3 H4/\(∃x y,σ=[x,y])/\∃kvs,H4 D=some (.dK kvs)/\KvO O kvs i)
   ⟨ao (ae.refl _) hD,⟨_,_,rfl⟩,[],ai,rfl,fun m x hm=>absurd hm (Nat.not_lt_zero _),fun x _=>rfl⟩ (fun i σ H4 _ q=>SqL.of (q.1 _ _ o1)) ?_ ?_
  ·rintro i x σ H4 T hx ⟨s4,⟨g1,g2,rfl⟩,kvs,d4,kv⟩ hT
   rw [List.getElem?_map] at hx
   obtain⟨z,hz,rfl⟩:∃z,O[i]?=some z/\x=.str z:=by
    cases e:O[i]? with
    | none=>rw [e] at hx;cases hx
    | some z=>rw [e] at hx;cases hx;exact⟨z,rfl,rfl⟩
   have hi:i < O.length:=(List.getElem?_eq_some_iff.mp hz).1
   have u4:=ao (o:=.tup [.int i,.str z]) (ae.refl H4) hT
   refine⟨T,_,rfl,SqT.of ai,rfl,_,_,rfl,_,_,rfl,rfl,?_⟩
   exact⟨_,rfl,_,rfl,_,⟨kvs,.inr z,u4 _ _ d4,rfl,by rw [kv.1];exact fits (by omega),rfl⟩,ae.upd0 (s4.trans u4) hD,⟨_,_,rfl⟩,_,ai,kv.step ond hz⟩
  rintro σ H4 ⟨s4,_,kvs,d4,kv⟩
  rw [List.length_map] at kv
  refine⟨_,rfl,D,kvs,rfl,d4,fun o=>?_⟩
  have s5:ae H2 (upd H4 D (.frz o (.dK kvs))):=ae.upd0 (s1.trans s4) hD2
  have d5:upd H4 D (.frz o (.dK kvs)) D=some (.frz o (.dK kvs)):=ai
  generalize upd H4 D (.frz o (.dK kvs))=H5 at s5 d5 ⊢
  have kl:=kv.1
  refine lx (kvs:=kvs) (fits (by omega)) (fun i zs σ H6=>(∃rws:List (Addr×List Int),zs=aj rws/\rws.length=i/\(∀r∈rws,r.2=List.replicate O.length 0)/\(∀r∈rws,aD H6 true r/\H5 r.1=none)/\(rws.map (·.1)).Nodup)/\ae H5 H6/\∃g,σ=[g,some (.ref D)])
   ⟨⟨[],rfl,rfl,by simp,by simp,by simp⟩,ae.refl _,_,rfl⟩ (fun i zs σ H6 _ z=>by obtain⟨⟨rws,rfl,e,_⟩,s6,_⟩:=z;exact⟨by simp [e],s6 _ _ d5⟩) ?_ ?_
  ·rintro i p zs σ H6 hp ⟨⟨rws,rfl,rl,rz,rn,rd⟩,s6,g,rfl⟩
   refine⟨by show 1<=sizeLine;decide,fun n hn=>?_⟩
   have u6:=ao (o:=.lst [.int 0]) (ae.refl H6) hn
   have n6:upd H6 n (.lst [.int 0]) n=some (.lst [.int 0]):=ai
   generalize upd H6 n (.lst [.int 0])=H7 at u6 n6 ⊢
   refine⟨_,rfl,D,kvs,rfl,.inr ⟨o,u6 _ _ (s6 _ _ d5)⟩,n,_,_,rfl,rfl,n6,by omega,by omega,by simp;rw [sizeLine_eq];omega,fun m hm=>?_⟩
   have e0:(List.replicate ((kvs.length:Int)).toNat [V.int 0]).flatten=(List.replicate O.length (0:Int)).map V.int:=by
    rw [kl,Int.toNat_natCast]
    induction O.length with
    | zero=>rfl
    | succ n ih=>rw [List.replicate_succ,List.flatten_cons,ih,List.replicate_succ];rfl
   rw [e0]
   have u7:=ao (o:=.lst ((List.replicate O.length (0:Int)).map V.int)) u6 hm
   have m0:H6 m=none:=u6.free hm
   have m5:H5 m=none:=s6.free m0
   refine⟨⟨rws++[(m,List.replicate O.length 0)],by simp [aj],by simp [rl],fun r hr=>?_,fun r hr=>?_,?_⟩,s6.trans u7,_,rfl⟩
   ·rcases List.mem_append.mp hr with z | z
    ·exact rz r z
    ·have e:r=(m,List.replicate O.length 0):=by simpa using z
     rw [e]
   ·rcases List.mem_append.mp hr with z | z
    ·exact⟨(rn r z).1.same u7,(rn r z).2⟩
    ·have e:r=(m,List.replicate O.length 0):=by simpa using z
     rw [e]
     exact⟨ai,m5⟩
   ·rw [List.map_append,List.nodup_append]
    refine⟨rd,by simp,fun a ha b hb e=>?_⟩
    have hb':b=m:=by simpa using hb
    obtain⟨r,hr,rfl⟩:=List.mem_map.mp ha
    have z:=(rn r hr).1
    unfold aD at z
    rw [e,hb',m0] at z
    cases z
  rintro zs σ H6 ⟨⟨rws0,rfl,rl0,rz0,rn0,rd0⟩,s6,g',rfl⟩ q hq
  have hq5:H5 q=none:=s6.free hq
  have s7:=ao (o:=.lst (aj rws0)) s6 hq
  have T7:Tb H2 (upd H6 q (.lst (aj rws0))) q rws0:=⟨ai,fun r hr=>by
   obtain⟨z1,z2⟩:=rn0 r hr
   have hne:r.1≠q:=ax z1 hq
   refine⟨?_,hne,s5.free z2⟩
   show upd _ q _ r.1=_
   rw [ag hne];exact z1,rd0,s5.free hq5⟩
  have d7:=s7 _ _ d5
  have s27:=s5.trans s7
  generalize upd H6 q (.lst (aj rws0))=H7 at s7 T7 d7 s27 ⊢
  rw [kl] at rl0
  have at0:∀i j,i < O.length->j < O.length->at2 (rws0.map (·.2)) i j=0:=fun i j hi hj=>by
   unfold at2
   rw [List.getElem?_map,List.getElem?_eq_getElem (show i < rws0.length by omega),Option.map_some,Option.getD_some,rz0 _ (List.getElem_mem _),List.getElem?_replicate,if_pos hj];rfl
  have len0:∀r∈rws0,r.2.length=O.length:=fun r hr=>by rw [rz0 r hr];simp
  have rb:H2 ra=some (.lst (aM rs))\/H2 ra=some (.tup (aM rs)):=hra
  refine mO (K:=K) (Hb:=H2) (a:=ra) (xs:=aM rs) (fun Q q=>⟨_,rfl,q⟩) rb s27 (fun i σ Hx=>∃rws:List (Addr×List Int),ae H2 Hx/\Tb H2 Hx q rws/\Hx D=some (.frz o (.dK kvs))/\rws.length=O.length/\(∀r∈rws,r.2.length=O.length) /\
    (∀x y,x < O.length->y < O.length->at2 (rws.map (·.2)) x y=tab (tis O root ((rs.map (·.2)).take i)) x y)/\∃g5 g6 g7,σ=[some (.ref pa),some (.str root),some (.ref ra),some (.ref D),some (.ref q),g5,g6,g7])
   ⟨rws0,s27,T7,d7,rl0,len0,fun x y hx hy=>by rw [at0 x y hx hy];rfl,_,_,_,rfl⟩ (fun i σ Hx _ z=>by obtain⟨_,z,_⟩:=z;exact z) ?_ ?_
  ·rintro i x σ Hx hx ⟨rws,sx,T,dx,rl,hl,hat,g5,g6,g7,rfl⟩
   obtain⟨r,hr',rfl⟩:=eh hx
   have hrm:=List.mem_of_getElem? hr'
   have r3:=sx _ _ (hrow r hrm)
   obtain⟨in1,in2⟩:=hin2 r hrm
   have hsucc:=iM (O:=O) (root:=root) (rs:=rs.map (·.2)) (i:=i) (r:=r.2) (by rw [List.getElem?_map,hr'];rfl)
   refine⟨r.1,_,rfl,SqT.of r3,rfl,_,_,rfl,_,_,rfl,_,_,rfl,rfl,?_⟩
   refine⟨_,rfl,_,rfl,rfl,_,rfl,?_⟩
   have e:(!decide (V.str r.2.2.2=V.str root))=!decide (r.2.2.2=root):=by simp
   rw [e]
   refine aX (fun c=>?_) (fun c=>?_)
   ·have c':r.2.2.2≠root:=by simpa using c
    have me:=in2 c'
    rw [if_neg c'] at hsucc
    have ve:=kv.get me
    have le:=dm me
    obtain⟨re,ve2,hre,hve2⟩:=e7 rl hl le le
    have R1:(aj rws)[ixo O r.2.2.2]?=some (.ref re.1):=by rw [List.getElem?_map,hre];rfl
    have gd:∀{Hz:Hp}{z:Str},Hz D=some (.frz o (.dK kvs))->z∈O->cG Hz D (.str z) (some (.int (ixo O z))):=fun hz hm=>.inl ⟨kvs,.inr _,.inr ⟨o,hz⟩,rfl,(kv.get hm).symm⟩
    refine⟨_,rfl,_,rfl,_,rfl,_,_,rfl,gd dx me,aB (j:=ixo O r.2.2.2) (.inl (SqL.of T.l)) rfl R1 ⟨_,rfl,_,rfl,_,_,rfl,gd dx me,?_⟩⟩
    have N1:=(T.r re (List.mem_of_getElem? hre)).1
    have V1:(re.2.map V.int)[ixo O r.2.2.2]?=some (.int ve2):=by rw [List.getElem?_map,hve2];rfl
    refine⟨re.1,_,_,_,rfl,rfl,SqL.of N1,by omega,by rw [Int.toNat_natCast];exact V1,_,_,rfl,rfl,re.1,_,_,ixo O r.2.2.2,rfl,rfl,N1,cO (by rw [List.length_map,hl re (List.mem_of_getElem? hre)];exact le),?_⟩
    have T2:=T.bump hre hve2 1
    have sx2:ae H2 (upd Hx re.1 (.lst ((re.2.map V.int).set (ixo O r.2.2.2) (.int (ve2 + 1))))):=ae.upd0 sx (T.r re (List.mem_of_getElem? hre)).2.2
    have dx2:upd Hx re.1 (.lst ((re.2.map V.int).set (ixo O r.2.2.2) (.int (ve2 + 1)))) D=some (.frz o (.dK kvs)):=by
     rw [ag (fun z=>by rw [z,N1] at dx;cases dx)];exact dx
    generalize upd Hx re.1 (.lst ((re.2.map V.int).set (ixo O r.2.2.2) (.int (ve2 + 1))))=Hy at T2 sx2 dx2 ⊢
    have rl2:=(eJ rws (ixo O r.2.2.2) (ixo O r.2.2.2) 1).trans rl
    have hl2:=eD rws (ixo O r.2.2.2) (ixo O r.2.2.2) 1 _ hl
    have hat2:=eS rws (ixo O r.2.2.2) (ixo O r.2.2.2) 1 _ rl hl
    generalize bmp rws (ixo O r.2.2.2) (ixo O r.2.2.2) 1=rws2 at T2 rl2 hl2 hat2
    refine⟨_,rfl,_,rfl,rfl,_,rfl,?_⟩
    have e:(!decide (V.str r.2.2.1=V.str root))=!decide (r.2.2.1=root):=by simp
    rw [e]
    refine aX (fun d=>?_) (fun d=>?_)
    ·have d':r.2.2.1≠root:=by simpa using d
     have ms:=in1 d'
     rw [if_neg d'] at hsucc
     have ls:=dm ms
     obtain⟨rt,vt,hrt,hvt⟩:=e7 rl2 hl2 ls le
     have R2:(aj rws2)[ixo O r.2.2.1]?=some (.ref rt.1):=by rw [List.getElem?_map,hrt];rfl
     refine⟨_,rfl,_,rfl,_,rfl,_,_,rfl,gd dx2 ms,aB (j:=ixo O r.2.2.1) (.inl (SqL.of T2.l)) rfl R2 ⟨_,rfl,_,rfl,_,_,rfl,gd dx2 me,?_⟩⟩
     have N2:=(T2.r rt (List.mem_of_getElem? hrt)).1
     have V2:(rt.2.map V.int)[ixo O r.2.2.2]?=some (.int vt):=by rw [List.getElem?_map,hvt];rfl
     refine⟨rt.1,_,_,_,rfl,rfl,SqL.of N2,by omega,by rw [Int.toNat_natCast];exact V2,_,_,rfl,rfl,rt.1,_,_,ixo O r.2.2.2,rfl,rfl,N2,cO (by rw [List.length_map,hl2 rt (List.mem_of_getElem? hrt)];exact le),?_⟩
     have T3:=T2.bump hrt hvt (-1)
     rw [<- Int.sub_eq_add_neg] at T3
     refine⟨_,ae.upd0 sx2 (T2.r rt (List.mem_of_getElem? hrt)).2.2,T3,by rw [ag (fun z=>by rw [z,N2] at dx2;cases dx2)];exact dx2,(eJ _ _ _ _).trans rl2,eD _ _ _ _ _ hl2,fun x y hx hy=>?_,_,_,_,rfl⟩
     rw [eS _ _ _ _ _ rl2 hl2 x y hx hy,hat2 x y hx hy,hat x y hx hy,hsucc,eu]
     unfold one
     by_cases b1:y=ixo O r.2.2.2
     ·subst b1
      simp only [and_true,if_true,Option.some.injEq]
      have:(ixo O r.2.2.1=x) ↔ (x=ixo O r.2.2.1):=eq_comm
      simp only [this]
      split <;> split <;> omega
     ·simp [b1,Ne.symm b1]
    ·have d':r.2.2.1=root:=by simpa using d
     rw [if_pos d'] at hsucc
     refine⟨rws2,sx2,T2,dx2,rl2,hl2,fun x y hx hy=>?_,_,_,_,rfl⟩
     rw [hat2 x y hx hy,hat x y hx hy,hsucc,eu]
     unfold one
     by_cases b1:y=ixo O r.2.2.2
     ·subst b1
      simp
     ·simp [b1,Ne.symm b1]
   ·have c':r.2.2.2=root:=by simpa using c
    rw [if_pos c',List.append_nil] at hsucc
    exact⟨rws,sx,T,dx,rl,hl,fun x y hx hy=>by rw [hsucc];exact hat x y hx hy,_,_,_,rfl⟩
  rintro σ Hx ⟨rws,sx,T,dx,rl,hl,hat,g5,g6,g7,rfl⟩
  rw [List.length_map,take_all _ (by simp)] at hat
  refine⟨_,rfl,q,rfl,⟨_,SqL.of T.l⟩,?_⟩
  refine eg (K:=K) (xs:=aj rws) (fits (by simp;omega)) (fun i zs σ Hy=>(∃rt:List (Addr×List Int),zs=aj rt/\rt.map (·.2)=(rws.map (·.2)).take i/\∀r∈rt,aD Hy false r)/\ae Hx Hy/\∃g,σ=[g])
   ⟨⟨[],rfl,by simp,by simp⟩,ae.refl _,_,rfl⟩ (fun i zs σ Hy hi z=>by
    obtain⟨⟨rt,rfl,e,_⟩,sy,_⟩:=z
    have:=congrArg List.length e
    simp at this
    exact⟨by simp;omega,SqL.of (sy _ _ T.l)⟩) ?_ ?_
  ·rintro i x zs σ Hy hx ⟨⟨rt,rfl,e,hn⟩,sy,g,rfl⟩
   rw [List.getElem?_map] at hx
   obtain⟨r,hr',rfl⟩:∃r,rws[i]?=some r/\x=.ref r.1:=by
    cases e:rws[i]? with
    | none=>rw [e] at hx;cases hx
    | some z=>rw [e] at hx;cases hx;exact⟨z,rfl,rfl⟩
   have N1:=(T.r r (List.mem_of_getElem? hr')).1.same sy
   refine⟨_,rfl,r.1,_,rfl,.inl ⟨SqL.of N1,fun n hn'=>?_⟩⟩
   have u:=ao (o:=.tup (r.2.map V.int)) (ae.refl Hy) hn'
   refine⟨⟨rt++[(n,r.2)],by simp [aj],by rw [List.map_append,e,List.take_add_one,List.getElem?_map,hr'];rfl,fun z hz=>?_⟩,sy.trans u,_,rfl⟩
   rcases List.mem_append.mp hz with y | y
   ·exact (hn z y).same u
   ·have e:z=(n,r.2):=by simpa using y
    rw [e];exact ai
  rintro zs σ Hy ⟨⟨rt,rfl,e,hn⟩,sy,g,rfl⟩ l hl'
  rw [List.length_map,take_all _ (by simp)] at e
  have u:=ao (o:=.lst (aj rt)) (ae.refl Hy) hl'
  have l8:upd Hy l (.lst (aj rt)) l=some (.lst (aj rt)):=ai
  generalize upd Hy l (.lst (aj rt))=Hz at u l8 ⊢
  refine⟨l,_,rfl,.inl ⟨SqL.of l8,fun n hn'=>?_⟩⟩
  have u2:=ao (o:=.tup (aj rt)) (ae.refl Hz) hn'
  have el:rt.length=rws.length:=by have:=congrArg List.length e;simpa using this
  refine hk n rt _ (sx.trans (sy.trans (u.trans u2))) ai (fun r hr=>(hn r hr).same (u.trans u2)) (by omega) (fun r hr=>?_) (fun i j hi hj=>by rw [e];exact hat i j hi hj)
  have:r.2∈rws.map (·.2):=by rw [<- e];exact List.mem_map.mpr ⟨r,hr,rfl⟩
  obtain⟨r',h1,h2⟩:=List.mem_map.mp this
  rw [<- h2];exact hl r' h1
end
end K81
namespace PySem
open Sem (wp)
open AutoSeq1 (wpAny_loadPart')
section
variable {prog:Program}{w:World}{A:Around}{E:Value->Shared->Prop}{s:Shared}
theorem la {Q:List Value->Shared->Prop}{r:Addr}{a b c:Int}{t u v:Tok}{n:Nat} (hh:A.handled=none) (hr:IsRange s.heap r a b c t u v) (hsmall:Builtin.Range.small a b c=true)
  (hn:Builtin.Range.rangeSize a b c=n) (hlen:n<=2 ^ 24)
  (hQ:∀h' tk (acc:Array Value),(∀b o,s.heap.get? b=some o->h'.get? b=some o)->ItemsOf (fun i v=>∃t,v=.int (a + i * c) t) acc n->Q acc.toList { s with heap:=h',toks:=tk }) :
  wpAny (model prog w) A (collect (.ref r)) Q E s:=by
 unfold collect
 refine wpAny_bind (wpAny_runValue (codeAny_builtin F.entry_proto_collect ?_))
 rw [Around.under_plainId F.plain_proto_collect _]
 show wpAny _ A.in1 (newList [] >>= fun l=>again (.builtin "list.__iadd__" ⟨[l,.ref r],[]⟩)) _ _ s
 refine wpAny_bind (wpAny_newObj_type ?_)
 refine wpAny_pure ⟨plainId_quiet F.plain_list_iadd _,codeAny_builtin F.entry_list_iadd ?_⟩
 rw [Around.under_plainId F.plain_list_iadd _]
 show wpAny _ A.in1 (Builtin.List.listExtendWith (.ref s.heap.objs.size) (.ref r) (.ref s.heap.objs.size)) _ _ _
 have hS:(s.heap.push { cls:=.type "list",data:=.seq ([]:List Value).toArray }).get? s.heap.objs.size=some { cls:=.type "list",data:=.seq #[] 0 }:=Heap.get?_push_size _ rfl
 refine wpAny_mono (wpAny_extend_range (A:=A) (R:=fun x s'=>x=.ok (.ret (.ref s.heap.objs.size))/\∃h' tk acc' c',s'={ s with heap:=h',toks:=tk }/\(∀b o,s.heap.get? b=some o->h'.get? b=some o)/\h'.get? s.heap.objs.size=some { cls:=.type "list",dict:=none,data:=.seq acc' c',slots:=#[] }/\ItemsOf (fun i v=>∃t,v=.int (a + i * c) t) acc' n)
  (s:={ s with heap:=s.heap.push { cls:=.type "list",data:=.seq ([]:List Value).toArray } }) hh (Heap.get?_push_of_some _ hr) hsmall hn hlen s.heap.objs.size _ 0 hS
  (fun h' tk acc' c' k1 k2 k3=>⟨rfl,h',tk,acc',c',rfl,fun b o e=>k1 b o (Nat.ne_of_lt (Heap.lt_size e)) (Heap.get?_push_of_some _ e),k2,k3⟩)) (fun fin s' h=>?_) (fun e s' h=>absurd h.1 (by simp))
 have fin':∀s',(∃h' tk acc' c',s'={ s with heap:=h',toks:=tk }/\(∀b o,s.heap.get? b=some o->h'.get? b=some o)/\h'.get? s.heap.objs.size=some { cls:=.type "list",dict:=none,data:=.seq acc' c',slots:=#[] }/\ItemsOf (fun i v=>∃t,v=.int (a + i * c) t) acc' n) ->
   wpAny (model prog w) A (match Value.ref s.heap.objs.size with
   | Value.ref a=>do
    match (<- load a).data with
     | Data.seq xs _=>pure xs.toList
     | _=>unsupported "internal:collect"
   | _=>unsupported "internal:collect") Q E s':=by
  rintro s' ⟨h',tk,acc',c',rfl,k1,k2,k3⟩
  show wpAny _ A (load s.heap.objs.size >>= _) _ _ _
  refine wpAny_bind (wpAny_load k2 ?_)
  exact wpAny_pure (hQ h' tk acc' k1 k3)
 cases fin with
 | done f =>
  obtain⟨e,h⟩:=h
  cases e
  exact fin' _ h
 | again c'=>exact⟨h.1,codeAny_mono h.2 fun r s'' hr=>by obtain⟨rfl,hr⟩:=hr;exact fin' _ hr⟩
end
theorem kL (r:Addr) (a b c:Int) (t u v:Tok) (n:Nat) (hsmall:Builtin.Range.small a b c=true) (hn:Builtin.Range.rangeSize a b c=n) (hlen:n<=2 ^ 24) :
  Meets (Builtin.«tuple.__new__» ⟨[.type "tuple",.ref r],[]⟩)
   (fun A R s=>A.handled=none/\IsRange s.heap r a b c t u v/\∀(h':Heap) (tk:Nat) (acc:Array Value),(∀b o,s.heap.get? b=some o->h'.get? b=some o)->ItemsOf (fun i v=>∃t,v=.int (a + i * c) t) acc n ->
    R (.ok (.ret (.ref h'.objs.size))) { s with heap:=h'.push { cls:=.type "tuple",data:=.seq acc },toks:=tk }) :=
 .of_wp fun prog w A R s h=>by
  obtain⟨hh,hr,h⟩:=h
  have hsub:=sub_tuple_self
  have hinit:=init_tuple_lookup
  have hmh:=madeHere_tuple
  have hT:s.TypeIs (.ref r) "range":=⟨_,hr,rfl⟩
  have hh1:A.in1.handled=none:=hh
  wp_walk using wpAny_typeOf hT,la hh1 hr hsmall hn hlen
  intro h' tk acc hk hacc
  show wpAny _ _ (Builtin.Tuple.tupleExact acc.toList.toArray >>= fun v=>ret v) _ _ _
  unfold Builtin.Tuple.tupleExact
  refine wpAny_bind (wpAny_newObj_type ?_ (show acc.toList.toArray.size<=sizeLine by simp only [Array.toArray_toList];rw [hacc.1,sizeLine_eq];omega))
  refine wpAny_pure ⟨_,rfl,?_⟩
  have e:acc.toList.toArray=acc:=by simp
  rw [e]
  exact h h' tk acc hk hacc
section
variable {prog:Program}{w:World}{A:Around}{E:Value->Shared->Prop}{s:Shared}
theorem kO {Q:Value->Shared->Prop}{r:Addr}{a b c:Int}{t u v:Tok}{n:Nat} (hh:A.handled=none) (hr:IsRange s.heap r a b c t u v) (hsmall:Builtin.Range.small a b c=true)
  (hn:Builtin.Range.rangeSize a b c=n) (hlen:n<=2 ^ 24)
  (h:∀(h':Heap) (tk:Nat) (acc:Array Value),(∀b o,s.heap.get? b=some o->h'.get? b=some o)->ItemsOf (fun i v=>∃t,v=.int (a + i * c) t) acc n->Q (.ref h'.objs.size) { s with heap:=h'.push { cls:=.type "tuple",data:=.seq acc },toks:=tk }) :
  wpAny (model prog w) A (call (.type "tuple") [.ref r]) Q E s :=
 callType_new F.called_tuple (by decide) (F.typeCall_tuple_1 _) (F.newCall_tuple_1 _) (fun obj=>F.args_object_init_2 obj _) F.entry_tuple_new
  (kL r a b c t u v n hsmall hn hlen) ⟨hh,hr,fun h' tk acc hk hacc=>⟨⟨_,Heap.get?_push_size _ rfl,rfl⟩,h h' tk acc hk hacc⟩⟩
end
end PySem
namespace L2
open PySem PySem.Spec PyProof.Rows PySem.W PySem.Calls
section
variable {X:Cx}
theorem k6:bj X (.builtin "sorted") (fun xs H Q=>∃(p:Addr) (ns:List Int),xs=[.ref p]/\SqT X.K H p (ns.map V.int)/\ns.length < 64/\∀(ns':List Int) (q:Addr),ns'.Perm ns->ns'.Pairwise (·<=·)->H q=none->Q (.ref q) (upd H q (.lst (ns'.map V.int)))):=by
 intro pins s σ H xs us Q I r h
 obtain⟨p,ns,rfl,hq,h64,q⟩:=h
 obtain⟨u,rfl,rx⟩:=vals1 r
 cases rx
 obtain⟨its,r',⟨o,ho,hc,n,hd⟩,hz⟩:=I.tuple hq
 have hlen:=r'.length
 rw [List.length_map] at hlen
 have hI:=intsAre_of r'
 refine Calls.call_function_entry kind_sorted plain_sorted entry_sorted (args_sorted1 _) ?_
 unfold Builtin.«sorted»
 refine wpAny_bind (m:=checkCount "sorted" 1 1 _) (wpAny_pure ?_)
 refine wpAny_bind (gI (.inr rfl) ho hc hd ?_ (by rw [sizeLine_eq];omega))
 refine wpAny_bind (wpAny_newList ?_ (by rw [sizeLine_eq];omega))
 have hsz:((s.heap.push (seqObj "list" #[] 0)).update s.heap.objs.size (Obj.mapSeq (·++its.toArray))).objs.size=s.heap.objs.size + 1:=by
  rw [Heap.size_update,size_push']
 have hoL:(((s.heap.push (seqObj "list" #[] 0)).update s.heap.objs.size (Obj.mapSeq (·++its.toArray))).push (seqObj "list" its.toArray 0)).get? (s.heap.objs.size + 1)=some (seqObj "list" its.toArray 0):=by
  rw [<- hsz];exact Heap.get?_push_size _ rfl
 show wpAny _ _ _ _ _ { s with heap:=((s.heap.push (seqObj "list" #[] 0)).update s.heap.objs.size (Obj.mapSeq (·++its.toArray))).push (seqObj "list" its.toArray 0) }
 rw [hsz]
 refine wpAny_bind (wpAny_holding (wpAny_call_entry slot_list_sort ⟨_,hoL,rfl⟩ entry_list_sort (list_sort_tree hoL hI (by omega) fun out ns' h1 h2 h3=>⟨_,rfl,?_⟩) (args_list_sort _)))
 refine wpAny_pure ⟨_,rfl,?_⟩
 obtain⟨e,he⟩:=sortedAll_at s.heap its out
 have hv:am (ns'.map V.int) out.toList:=fh h1
 have hfr:H (s.heap.objs.size + 1)=none:=I.hok.fresh (Nat.le_succ _)
 refine⟨.ref (s.heap.objs.size + 1),_,I.laid (h':=sortedAll s.heap its out) (t':=s.toks) (o:=.lst (ns'.map V.int)) (fun b o z=>sortedAll_old z) (Nat.le_succ _) ⟨?_,out.toList,e,hv,?_⟩,rfl,q ns' _ h2 h3 hfr⟩
 ·rw [List.length_map,h2.length_eq,sizeLine_eq];omega
 ·rw [Array.toArray_toList];exact he
noncomputable def ou (tk tv:TE):TE:=fun σ H Q=>∀p,H p=none->tk σ (upd H p (.dT [])) fun y H1=>tv σ H1 fun v H2=>∃(k:List Key) (b:Addr),y=.ref b/\H2 b=some (.tup (k.map kV))/\H2 p=some (.dT [])/\Q (.ref p) (upd H2 p (.dT [(k,v)]))
theorem ml {pos:Pos}{ke ve:Expr}{tk tv:TE} (hu:X.A.units < cLine) (hk:PE X ke tk) (hv:PE X ve tv):PE X (.Dict [some ke] [ve] pos) (ou tk tv):=by
 intro pins s σ H Q I q
 have hn:=I.hok.fresh (Nat.le_refl s.heap.objs.size)
 have I1:=I.laid (a:=s.heap.objs.size) (o:=.dT []) (h':=s.heap.push { cls:=.type "dict",data:=.dict #[] }) (t':=s.toks) (fun _ _ q=>Heap.get?_push_of_some _ q) (Nat.le_refl _) (iO s.heap I.big)
 refine wpAny_Dict_any rfl rfl (by simp) (by simp) (pairTrees_cons_walk (thn (hk pins _ σ _ _ I1 (q _ hn)) fun u s1 ⟨y,H1,I1,ry,q1⟩=>thn (hv pins s1 σ H1 _ I1 q1) fun w2 s2 ⟨v,H2,I2,rv,k,b,ey,eb,ep,q2⟩=>pairTrees_nil_walk ?_))
 unfold storeAll
 rw [List.forIn_cons]
 refine wpAny_bind (wpAny_bind (mi hu I2 (H':=upd H2 s.heap.objs.size (.dT [(k,v)])) ⟨[],k,b,ep,ey,eb,by rw [sizeLine_eq];simp,rfl⟩ ry rv fun s' I'=>wpAny_pure ?_))
 dsimp only
 rw [List.forIn_nil]
 exact wpAny_pure ⟨.ref s.heap.objs.size,_,I',rfl,q2⟩
theorem i6:∀(l:List Value) (f:Nat->V),(∀j v,l[j]?=some v->RelV (f j) v)->am ((List.range l.length).map f) l
 | [],_,_=>.nil
 | x::l,f,h=>by
  rw [List.length_cons,List.range_succ_eq_map,List.map_cons,List.map_map]
  exact .cons (h 0 x rfl) (i6 l (f ∘ Nat.succ) fun j v hj=>h (j + 1) v (by simpa using hj))
noncomputable def qv (ta:TA):TE:=fun σ H Q=>ta σ H fun vs H1=>∃n:Nat,vs=[.int n]/\n<=1000/\∀p,H1 p=none->Q (.ref p) (upd H1 p (.tup ((List.range n).map fun i:Nat=>V.int i)))
theorem oA {a:Expr}{ta:TA}{p p2 pos pos2:Pos} (hc:X.calm=true) (hg:Gl X "range") (hm:X.mg "range"=none) (hg2:Gl X "tuple") (hm2:X.mg "tuple"=none) (ha:PA X [a] ta) (hs:starEach [a] X.env=[(false,eval a X.env)]:=by rfl)
  (he:starEach [.Call (.Name "range" p2) [a] [] pos2] X.env=[(false,eval (.Call (.Name "range" p2) [a] [] pos2) X.env)]:=by rfl):PE X (.Call (.Name "tuple" p) [.Call (.Name "range" p2) [a] [] pos2] [] pos) (qv ta):=by
 intro pins s σ H Q I h
 refine Call_ (bO I hg2 hm2 (show bootBuiltins "tuple"=some (.type "tuple") by decide +kernel) (PyProof.Rows.callWith_type1 ?_ he rfl))
 rw [he]
 show wpAny _ _ (spliced ((false,eval (.Call (.Name "range" p2) [a] [] pos2) X.env)::backTo pos [])) _ _ s
 refine Calls.spliced_cons (Call_ (bO I hg hm boot_range (PyProof.Rows.callWith_type1 (thn (ha pos2 pins s σ H _ I h) fun us s1 ⟨vs,H1,I1,r1,q1⟩=>?_) hs rfl)))
 obtain⟨n,rfl,hn,q⟩:=q1
 cases r1 with
 | cons r rr =>
  cases rr
  obtain⟨t,rfl⟩:=r
  refine call_range_1 (Calls.spliced_nil ?_)
  refine kO (I1.ok.hd hc) (IsRange.new ..) (small_one (by omega) (by omega) (by omega) (by omega)) (n:=n) (by rw [rangeSize_one];split <;> omega) (by omega) fun h' tk acc hk hacc=>?_
  have I2:Inv X pins σ H1 { s1 with heap:=h',toks:=tk }:=I1.kept (t':=tk) fun b o e=>hk b o (Heap.get?_push_of_some _ e)
  have hv:am ((List.range n).map fun i:Nat=>V.int i) acc.toList:=by
   have:=i6 acc.toList (fun i:Nat=>V.int i) fun j v hj=>by
    obtain⟨t,e⟩:=hacc.2 j v (by simpa using hj)
    exact⟨t,by rw [e];simp⟩
   rwa [Array.length_toList,hacc.1] at this
  have I3:Inv X pins σ (upd H1 h'.objs.size (.tup ((List.range n).map fun i:Nat=>V.int i))) { s1 with heap:=h'.push { cls:=.type "tuple",data:=.seq acc },toks:=tk } :=
   I2.laid (t':=tk) (fun b o e=>Heap.get?_push_of_some _ e) (Nat.le_refl _) (show aC X.prog X.w _ _ _ (.tup _) from ⟨by rw [List.length_map,List.length_range,sizeLine_eq];omega,acc.toList,hv,by rw [Array.toArray_toList];exact IsTup.new _ _⟩)
  exact⟨.ref h'.objs.size,_,I3,rfl,q _ (I2.hok.fresh (Nat.le_refl _))⟩
end
end L2
namespace K81
open PySem L2 DT
section
variable {P:Program}{w:World}{K:PySem.W.Frag}{mg:Str->Option Value}{base:Heap}
noncomputable def kI (H:Hp) (ps:List Str) (root:Str) (rs:List Row) (Q:VK):Prop :=
 ∀(q:Addr) (rws:List (Addr×List Int)) (H':Hp),ae H H'->H' q=some (.tup (aj rws))->(∀r∈rws,aD H' false r)->rws.length=(others ps root).length->(∀r∈rws,r.2.length=(others ps root).length) ->
  (∀i j,i < (others ps root).length->j < (others ps root).length->at2 (rws.map (·.2)) i j=tab (tis (others ps root) root rs) i j)->Q (.ref q) H'
noncomputable def i4:Sp:=fun vs H Q _=>∃(v pa ra:Addr) (root:Str) (ps:List Str) (rs:List (Addr×Row)),vs=[.ref v,.str root]/\cE H v pa ra ps rs/\Good ps (rs.map (·.2))/\ps.length<=8/\root∈ps/\kI H ps root (rs.map (·.2)) Q
theorem rP:aQ ["web","root"] ["web","root"] (aF (top 16)):=⟨rfl,rfl,rfl,by decide +kernel,rfl,by decide +kernel,by decide +kernel⟩
theorem lQ {f:Addr}{fd:FuncData} (F:Fun K "table" "table" (top 16) f fd) (F1:Fn P w K mg base 4 "need_web" ["thing"] (eW .non)) (F2:Fn P w K mg base 2 "need_place" ["web","thing"] gF) (F3:Fn P w K mg base 1 "table_of" ["places","root","rows"] jW):aH P w K mg base CX0 5 f fd ["web","root"] i4:=by
 refine F.ok rP (fun vs H Q E h=>?_) (fun cdv A outer s H vs Q E hr h=>?_)
 ·obtain⟨v,pa,ra,root,ps,rs,rfl,_⟩:=h
  rfl
 ·obtain⟨v,pa,ra,root,ps,rs,rfl,W,G,p8,hroot,k⟩:=h
  have hr2:aK 2 _:=hr.mono (by decide)
  have hr1:aK 1 _:=hr.mono (by decide)
  refine⟨_,ak (cR (ar F1 hr (aa (pv 0) ab))) (ak (cR (ar F2 hr2 (aa (pv 0) (aa (pv 1) ab)))) (aq (aI (ar F3 hr1 (aa (ay aG (pv 0) af (fun _ _=>rfl)) (aa (pv 1) (aa (ay aG (pv 0) af (fun _ _=>rfl)) ab))))))),?_⟩
  refine⟨_,rfl,v,pa,ra,ps,rs,rfl,W,G,fun H1 s1=>⟨_,rfl,_,rfl,v,pa,ra,ps,rs,root,rfl,W.same s1,hroot,?_⟩⟩
  have W1:=W.same s1
  refine⟨_,rfl,aB (j:=0) (.inr (SqT.of W1.tp)) rfl rfl ⟨_,rfl,_,rfl,aB (j:=1) (.inr (SqT.of W1.tp)) rfl rfl ⟨pa,ra,root,ps,rs,rfl,W1.pl,.inr W1.rl,W1.rows,iE G.so,p8,by have:=G.rz;simpa using this,fun r hr=>?_,fun q rws H2 s2=>k q rws H2 (s1.trans s2)⟩⟩⟩
  obtain⟨_,h2,h3,_⟩:=G.rn r.2 (List.mem_map.mpr ⟨r,hr,rfl⟩)
  exact⟨h2,h3⟩
theorem ie {O:List Str}{x:Str} (nd:O.Nodup) (h:x∈O):∀m,m < ixo O x->O[m]?≠some x:=fun m hm z=>by
 obtain⟨h1,e1⟩:=List.getElem?_eq_some_iff.mp z
 obtain⟨h2,e2⟩:=List.getElem?_eq_some_iff.mp (eP h)
 have:=(List.getElem_inj (h₀:=h1) (h₁:=h2) nd).mp (e1.trans e2.symm)
 omega
noncomputable def jq:Sp:=fun vs H Q _=>∃(v pa ra:Addr) (root:Str) (ps:List Str) (rs:List (Addr×Row)),vs=[.ref v,.str root]/\cE H v pa ra ps rs/\Good ps (rs.map (·.2))/\ps.length<=8/\kI H ps root (rs.map (·.2)) Q
noncomputable abbrev N27:List Str:=["_law_web_here","_law_root","_law_others","_law_rows_here","_law_tie","_law_begin","_law_end","_law_at","_law_row"]
theorem cI:aQ N27 ["_law_web_here","_law_root"] (aF (top 27)):=⟨rfl,rfl,rfl,by decide +kernel,rfl,by decide +kernel,by decide +kernel⟩
theorem oE {f:Addr}{fd:FuncData} (F:Fun K "_law_table" "_law_table" (top 27) f fd) (B:Bl mg):aH P w K mg base CX0 1 f fd ["_law_web_here","_law_root"] jq:=by
 refine F.ok cI (fun vs H Q E h=>?_) (fun cdv A outer s H vs Q E hr h=>?_)
 ·obtain⟨v,pa,ra,root,ps,rs,rfl,_⟩:=h
  rfl
 ·obtain⟨v,pa,ra,root,ps,rs,rfl,W,G,p8,k⟩:=h
  refine⟨_,ak (au (i:=2) cI.nd rfl (Or.inr rfl) (bb (N:=["_law_place","_law_root"]) (ix:=[none,some 1]) ⟨rfl,rfl,rfl,by decide⟩ rfl (cb (ay aG (pv 0) af (fun _ _=>rfl))) (fun _ _ _ _=>aO 0 (by decide) rfl rfl) (fun _ _ _ _=>dj (aL bv (pv 0) (pv 1) (aN _))) (fun _ _ _ _=>pv 0)))
   (ak (dG (i:=3) (N:=["_law_place","_law_others"]) (ix:=[none,some 2]) cI.nd rfl (Or.inl rfl) ⟨rfl,rfl,rfl,by decide⟩ rfl (b9 (pv 2)) (fun _ _ _ _=>aO 0 (by decide) rfl rfl) (fun _ _ _ _=>a9)
     (fun _ _ _ _=>av jH (bV (aa af ab)) (aw (nG K) rfl B.len PySem.boot_len (aa (pv 1) ab))))
   (ak (bU PassesOwn.never rfl (cb (ay aG (pv 0) af (fun _ _=>rfl))) (cB rfl (n:=3) (aR (aZ (i:=4) cI.nd rfl (Or.inl rfl)) (aR (aZ (i:=5) cI.nd rfl (Or.inl rfl)) (aR (aZ (i:=6) cI.nd rfl (Or.inl rfl)) bH))))
    (aq (aV (aL bv (pv 6) (pv 1) (aN _))
     (ak (au (i:=7) cI.nd rfl (Or.inl rfl) (bX PySem.F.plainAttrs_list PySem.F.slot_list_index PySem.F.type_list_index gQ (pv 2) (aa (pv 6) ab)))
     (ak (cf (av bK (ay aG (ay aG (pv 3) (pv 7) (fun _ _=>rfl)) (pv 7) (fun _ _=>rfl)) af) (cS (ay aG (pv 3) (pv 7) (fun _ _=>rfl)) (pv 7) set_list))
     (aq (aV (aL bv (pv 5) (pv 1) (aN _))
      (ak (au (i:=8) cI.nd rfl (Or.inl rfl) (ay aG (pv 3) (bX PySem.F.plainAttrs_list PySem.F.slot_list_index PySem.F.type_list_index gQ (pv 2) (aa (pv 5) ab)) (fun _ _=>rfl)))
      (aq (cf (av cU (ay aG (pv 8) (pv 7) (fun _ _=>rfl)) af) (cS (pv 8) (pv 7) set_list)))) aS)))) aS)))
   (aq (aI (bT cJ rfl B.tuple bB (aa (bb (N:=["_law_row"]) (ix:=[none]) ⟨rfl,rfl,rfl,by decide⟩ rfl (b9 (pv 3)) (fun _ _ _ _=>aO 0 (by decide) rfl rfl) (fun _ _ _ _=>a9) (fun _ _ _ _=>bT (fg K) rfl B.tuple bB (aa (pv 0) ab))) ab)))))),?_⟩
  have pnd:=iE G.so
  have r60:rs.length<=60:=by have:=G.rz;simpa using this
  have hin:∀r∈rs,r.2.2.1∈ps/\r.2.2.2∈ps:=fun r hr=>⟨(G.rn r.2 (List.mem_map.mpr ⟨r,hr,rfl⟩)).2.1,(G.rn r.2 (List.mem_map.mpr ⟨r,hr,rfl⟩)).2.2.1⟩
  have ond:(others ps root).Nodup:=pnd.filter _
  have o8:(others ps root).length<=8:=Nat.le_trans (List.length_filter_le _ _) p8
  have hk2:∀(O:List Str),O=others ps root->∀(q:Addr) (rws:List (Addr×List Int)) (H':Hp),ae H H'->H' q=some (.tup (aj rws))->(∀r∈rws,aD H' false r)->rws.length=O.length->(∀r∈rws,r.2.length=O.length) ->
   (∀i j,i < O.length->j < O.length->at2 (rws.map (·.2)) i j=tab (tis O root (rs.map (·.2))) i j)->Q (.ref q) H':=by rintro O rfl;exact k
  have hin2:∀r∈rs,(r.2.2.1≠root->r.2.2.1∈others ps root)/\(r.2.2.2≠root->r.2.2.2∈others ps root):=fun r hr=>⟨fun z=>ee.mpr ⟨(hin r hr).1,z⟩,fun z=>ee.mpr ⟨(hin r hr).2,z⟩⟩
  refine⟨_,rfl,aB (j:=0) (.inr (SqT.of W.tp)) rfl rfl ⟨pa,rfl,⟨_,SqT.of W.pl⟩,?_⟩⟩
  refine eI (K:=K) (xs:=ps.map V.str) (fits (by simp;omega)) (fun i zs σ H2=>zs=((ps.take i).filter fun y=>!decide (y=root)).map V.str/\H2=H/\∃g,σ=[g,some (.str root)]) ⟨rfl,rfl,_,rfl⟩
   (fun i zs σ H2 hi z=>⟨by rw [z.1,List.length_map];exact Nat.le_trans (List.length_filter_le _ _) (by simp;omega),by rw [z.2.1];exact SqT.of W.pl⟩) ?_ ?_
  ·rintro i x zs σ H2 hx ⟨rfl,rfl,g,rfl⟩
   rw [List.getElem?_map] at hx
   obtain⟨z,hz,rfl⟩:∃z,ps[i]?=some z/\x=.str z:=by
    cases e:ps[i]? with
    | none=>rw [e] at hx;cases hx
    | some z=>rw [e] at hx;cases hx;exact⟨z,rfl,rfl⟩
   have tf:=dC (fun y:Str=>!decide (y=root)) ps i z hz
   refine⟨_,rfl,_,rfl,rfl,_,rfl,?_⟩
   have e:(!decide (V.str z=V.str root))=!decide (z=root):=by simp
   rw [e]
   refine aX (fun c=>⟨_,rfl,?_,rfl,_,rfl⟩) (fun c=>⟨?_,rfl,_,rfl⟩)
   ·rw [tf,c];simp
   ·rw [tf];simp only [Bool.not_eq_true] at c;rw [c];simp
  rintro zs σ H2 ⟨rfl,rfl,g,rfl⟩ D hol
  rw [take_all ps (by simp)]
  rw [show (ps.filter fun y=>!decide (y=root))=others ps root from rfl]
  generalize hO:others ps root=O at ond o8 hin2
  have hk:=hk2 O hO.symm
  clear hk2 k
  have s5:=ao (o:=.lst (O.map V.str)) (ae.refl H2) hol
  have d5:upd H2 D (.lst (O.map V.str)) D=some (.lst (O.map V.str)):=ai
  generalize upd H2 D (.lst (O.map V.str))=H5 at s5 d5 ⊢
  refine⟨_,rfl,D,rfl,⟨_,SqL.of d5⟩,?_⟩
  refine eg (K:=K) (xs:=O.map V.str) (fits (by simp;omega)) (fun i zs σ H6=>(∃rws:List (Addr×List Int),zs=aj rws/\rws.length=i/\(∀r∈rws,r.2=List.replicate O.length 0)/\(∀r∈rws,aD H6 true r/\H5 r.1=none)/\(rws.map (·.1)).Nodup)/\ae H5 H6/\∃g,σ=[g,some (.ref D)])
   ⟨⟨[],rfl,rfl,by simp,by simp,by simp⟩,ae.refl _,_,rfl⟩ (fun i zs σ H6 _ z=>by obtain⟨⟨rws,rfl,e,_⟩,s6,_⟩:=z;exact⟨by simp [e],SqL.of (s6 _ _ d5)⟩) ?_ ?_
  ·rintro i p zs σ H6 hp ⟨⟨rws,rfl,rl,rz,rn,rd⟩,s6,g,rfl⟩
   refine⟨by show 1<=sizeLine;decide,fun n hn=>?_⟩
   have u6:=ao (o:=.lst [.int 0]) (ae.refl H6) hn
   have n6:upd H6 n (.lst [.int 0]) n=some (.lst [.int 0]):=ai
   generalize upd H6 n (.lst [.int 0])=H7 at u6 n6 ⊢
   have e0:(List.replicate (((O.map V.str).length:Int)).toNat [V.int 0]).flatten=(List.replicate O.length (0:Int)).map V.int:=by
    rw [List.length_map,Int.toNat_natCast]
    induction O.length with
    | zero=>rfl
    | succ n ih=>rw [List.replicate_succ,List.flatten_cons,ih,List.replicate_succ];rfl
   refine⟨_,rfl,D,_,rfl,.inl (SqL.of (u6 _ _ (s6 _ _ d5))),n,_,_,rfl,rfl,n6,by rw [List.length_map];omega,by rw [List.length_map];omega,by rw [List.length_map,sizeLine_eq];simp;omega,fun m hm=>?_⟩
   rw [e0]
   have u7:=ao (o:=.lst ((List.replicate O.length (0:Int)).map V.int)) u6 hm
   have m0:H6 m=none:=u6.free hm
   have m5:H5 m=none:=s6.free m0
   refine⟨⟨rws++[(m,List.replicate O.length 0)],by simp [aj],by simp [rl],fun r hr=>?_,fun r hr=>?_,?_⟩,s6.trans u7,_,rfl⟩
   ·rcases List.mem_append.mp hr with z | z
    ·exact rz r z
    ·have e:r=(m,List.replicate O.length 0):=by simpa using z
     rw [e]
   ·rcases List.mem_append.mp hr with z | z
    ·exact⟨(rn r z).1.same u7,(rn r z).2⟩
    ·have e:r=(m,List.replicate O.length 0):=by simpa using z
     rw [e]
     exact⟨ai,m5⟩
   ·rw [List.map_append,List.nodup_append]
    refine⟨rd,by simp,fun a ha b hb e=>?_⟩
    have hb':b=m:=by simpa using hb
    obtain⟨r,hr,rfl⟩:=List.mem_map.mp ha
    have z:=(rn r hr).1
    unfold aD at z
    rw [e,hb',m0] at z
    cases z
  rintro zs σ H6 ⟨⟨rws0,rfl,rl0,rz0,rn0,rd0⟩,s6,g',rfl⟩ q hq
  rw [List.length_map] at rl0
  have hq5:H5 q=none:=s6.free hq
  have s7:=ao (o:=.lst (aj rws0)) s6 hq
  have T7:Tb H5 (upd H6 q (.lst (aj rws0))) q rws0:=⟨ai,fun r hr=>by
   obtain⟨z1,z2⟩:=rn0 r hr
   have hne:r.1≠q:=ax z1 hq
   refine⟨?_,hne,z2⟩
   show upd _ q _ r.1=_
   rw [ag hne];exact z1,rd0,hq5⟩
  have s27:=s5.trans s7
  generalize upd H6 q (.lst (aj rws0))=H7 at s7 T7 s27 ⊢
  have at0:∀i j,i < O.length->j < O.length->at2 (rws0.map (·.2)) i j=0:=fun i j hi hj=>by
   unfold at2
   rw [List.getElem?_map,List.getElem?_eq_getElem (show i < rws0.length by omega),Option.map_some,Option.getD_some,rz0 _ (List.getElem_mem _),List.getElem?_replicate,if_pos hj];rfl
  have len0:∀r∈rws0,r.2.length=O.length:=fun r hr=>by rw [rz0 r hr];simp
  have W7:=W.same s27
  refine⟨_,rfl,aB (j:=1) (.inr (SqT.of W7.tp)) rfl rfl ⟨ra,rfl,⟨_,SqT.of W7.rl⟩,?_⟩⟩
  refine fG (K:=K) (a:=ra) (xs:=aM rs) (fun i σ Hx=>∃rws:List (Addr×List Int),ae H5 Hx/\Tb H5 Hx q rws/\rws.length=O.length/\(∀r∈rws,r.2.length=O.length) /\
    (∀x y,x < O.length->y < O.length->at2 (rws.map (·.2)) x y=tab (tis O root ((rs.map (·.2)).take i)) x y)/\∃g4 g5 g6 g7 g8,σ=[some (.ref v),some (.str root),some (.ref D),some (.ref q),g4,g5,g6,g7,g8])
   ⟨rws0,s7,T7,rl0,len0,fun x y hx hy=>by rw [at0 x y hx hy];rfl,_,_,_,_,_,rfl⟩ (fun i σ Hx _ z=>by obtain⟨_,z,_⟩:=z;exact SqT.of (z _ _ (s5 _ _ W.rl))) ?_ ?_
  ·rintro i x σ Hx hx ⟨rws,sx,T,rl,hl,hat,g4,g5,g6,g7,g8,rfl⟩
   obtain⟨r,hr',rfl⟩:=eh hx
   have hrm:=List.mem_of_getElem? hr'
   have r3:=sx _ _ (s5 _ _ (W.rows r hrm))
   have dx:=sx _ _ d5
   obtain⟨in1,in2⟩:=hin2 r hrm
   have hsucc:=iM (O:=O) (root:=root) (rs:=rs.map (·.2)) (i:=i) (r:=r.2) (by rw [List.getElem?_map,hr'];rfl)
   refine⟨r.1,_,rfl,SqT.of r3,rfl,_,_,rfl,_,_,rfl,_,_,rfl,rfl,?_⟩
   refine⟨_,rfl,_,rfl,rfl,_,rfl,?_⟩
   have e:(!decide (V.str r.2.2.2=V.str root))=!decide (r.2.2.2=root):=by simp
   rw [e]
   refine aX (fun c=>?_) (fun c=>?_)
   ·have c':r.2.2.2≠root:=by simpa using c
    have me:=in2 c'
    rw [if_neg c'] at hsucc
    have le:=dm me
    obtain⟨re,ve2,hre,hve2⟩:=e7 rl hl le le
    have R1:(aj rws)[ixo O r.2.2.2]?=some (.ref re.1):=by rw [List.getElem?_map,hre];rfl
    refine⟨_,rfl,.inl ⟨rfl,_,SqL.of dx⟩,_,rfl,D,O,ixo O r.2.2.2,r.2.2.2,rfl,rfl,SqL.of dx,by omega,eP me,ie ond me,?_⟩
    have N1:=(T.r re (List.mem_of_getElem? hre)).1
    have V1:(re.2.map V.int)[ixo O r.2.2.2]?=some (.int ve2):=by rw [List.getElem?_map,hve2];rfl
    refine⟨_,rfl,_,rfl,aB (j:=ixo O r.2.2.2) (.inl (SqL.of T.l)) rfl R1 ⟨_,rfl,aB (j:=ixo O r.2.2.2) (.inl (SqL.of N1)) rfl V1 ⟨_,_,rfl,rfl,_,rfl,_,rfl,aB (j:=ixo O r.2.2.2) (.inl (SqL.of T.l)) rfl R1 ⟨_,rfl,re.1,_,_,ixo O r.2.2.2,rfl,rfl,N1,cO (by rw [List.length_map,hl re (List.mem_of_getElem? hre)];exact le),?_⟩⟩⟩⟩
    have T2:=T.bump hre hve2 1
    have sx2:ae H5 (upd Hx re.1 (.lst ((re.2.map V.int).set (ixo O r.2.2.2) (.int (ve2 + 1))))):=ae.upd0 sx (T.r re (List.mem_of_getElem? hre)).2.2
    generalize upd Hx re.1 (.lst ((re.2.map V.int).set (ixo O r.2.2.2) (.int (ve2 + 1))))=Hy at T2 sx2 ⊢
    have rl2:=(eJ rws (ixo O r.2.2.2) (ixo O r.2.2.2) 1).trans rl
    have hl2:=eD rws (ixo O r.2.2.2) (ixo O r.2.2.2) 1 _ hl
    have hat2:=eS rws (ixo O r.2.2.2) (ixo O r.2.2.2) 1 _ rl hl
    generalize bmp rws (ixo O r.2.2.2) (ixo O r.2.2.2) 1=rws2 at T2 rl2 hl2 hat2
    have dx2:=sx2 _ _ d5
    refine⟨_,rfl,_,rfl,rfl,_,rfl,?_⟩
    have e:(!decide (V.str r.2.2.1=V.str root))=!decide (r.2.2.1=root):=by simp
    rw [e]
    refine aX (fun d=>?_) (fun d=>?_)
    ·have d':r.2.2.1≠root:=by simpa using d
     have ms:=in1 d'
     rw [if_neg d'] at hsucc
     have ls:=dm ms
     obtain⟨rt,vt,hrt,hvt⟩:=e7 rl2 hl2 ls le
     have R2:(aj rws2)[ixo O r.2.2.1]?=some (.ref rt.1):=by rw [List.getElem?_map,hrt];rfl
     have N2:=(T2.r rt (List.mem_of_getElem? hrt)).1
     have V2:(rt.2.map V.int)[ixo O r.2.2.2]?=some (.int vt):=by rw [List.getElem?_map,hvt];rfl
     refine⟨_,rfl,_,rfl,.inl ⟨rfl,_,SqL.of dx2⟩,_,rfl,D,O,ixo O r.2.2.1,r.2.2.1,rfl,rfl,SqL.of dx2,by omega,eP ms,ie ond ms,aB (j:=ixo O r.2.2.1) (.inl (SqL.of T2.l)) rfl R2 ?_⟩
     refine⟨_,rfl,_,rfl,aB (j:=ixo O r.2.2.2) (.inl (SqL.of N2)) rfl V2 ⟨_,_,rfl,rfl,_,rfl,_,rfl,rt.1,_,_,ixo O r.2.2.2,rfl,rfl,N2,cO (by rw [List.length_map,hl2 rt (List.mem_of_getElem? hrt)];exact le),?_⟩⟩
     have T3:=T2.bump hrt hvt (-1)
     rw [<- Int.sub_eq_add_neg] at T3
     refine⟨_,ae.upd0 sx2 (T2.r rt (List.mem_of_getElem? hrt)).2.2,T3,(eJ _ _ _ _).trans rl2,eD _ _ _ _ _ hl2,fun x y hx hy=>?_,_,_,_,_,_,rfl⟩
     rw [eS _ _ _ _ _ rl2 hl2 x y hx hy,hat2 x y hx hy,hat x y hx hy,hsucc,eu]
     unfold one
     by_cases b1:y=ixo O r.2.2.2
     ·subst b1
      simp only [and_true,if_true,Option.some.injEq]
      have:(ixo O r.2.2.1=x) ↔ (x=ixo O r.2.2.1):=eq_comm
      simp only [this]
      split <;> split <;> omega
     ·simp [b1,Ne.symm b1]
    ·have d':r.2.2.1=root:=by simpa using d
     rw [if_pos d'] at hsucc
     refine⟨rws2,sx2,T2,rl2,hl2,fun x y hx hy=>?_,_,_,_,_,_,rfl⟩
     rw [hat2 x y hx hy,hat x y hx hy,hsucc,eu]
     unfold one
     by_cases b1:y=ixo O r.2.2.2
     ·subst b1
      simp
     ·simp [b1,Ne.symm b1]
   ·have c':r.2.2.2=root:=by simpa using c
    rw [if_pos c',List.append_nil] at hsucc
    exact⟨rws,sx,T,rl,hl,fun x y hx hy=>by rw [hsucc];exact hat x y hx hy,_,_,_,_,_,rfl⟩
  rintro σ Hx ⟨rws,sx,T,rl,hl,hat,g4,g5,g6,g7,g8,rfl⟩
  rw [List.length_map,take_all _ (by simp)] at hat
  refine⟨_,rfl,q,rfl,⟨_,SqL.of T.l⟩,?_⟩
  refine eg (K:=K) (xs:=aj rws) (fits (by simp;omega)) (fun i zs σ Hy=>(∃rt:List (Addr×List Int),zs=aj rt/\rt.map (·.2)=(rws.map (·.2)).take i/\∀r∈rt,aD Hy false r)/\ae Hx Hy/\∃g,σ=[g])
   ⟨⟨[],rfl,by simp,by simp⟩,ae.refl _,_,rfl⟩ (fun i zs σ Hy hi z=>by
    obtain⟨⟨rt,rfl,e,_⟩,sy,_⟩:=z
    have:=congrArg List.length e
    simp at this
    exact⟨by simp;omega,SqL.of (sy _ _ T.l)⟩) ?_ ?_
  ·rintro i x zs σ Hy hx ⟨⟨rt,rfl,e,hn⟩,sy,g,rfl⟩
   rw [List.getElem?_map] at hx
   obtain⟨r,hr',rfl⟩:∃r,rws[i]?=some r/\x=.ref r.1:=by
    cases e:rws[i]? with
    | none=>rw [e] at hx;cases hx
    | some z=>rw [e] at hx;cases hx;exact⟨z,rfl,rfl⟩
   have N1:=(T.r r (List.mem_of_getElem? hr')).1.same sy
   refine⟨_,rfl,r.1,_,rfl,.inl ⟨SqL.of N1,fun n hn'=>?_⟩⟩
   have u:=ao (o:=.tup (r.2.map V.int)) (ae.refl Hy) hn'
   refine⟨⟨rt++[(n,r.2)],by simp [aj],by rw [List.map_append,e,List.take_add_one,List.getElem?_map,hr'];rfl,fun z hz=>?_⟩,sy.trans u,_,rfl⟩
   rcases List.mem_append.mp hz with y | y
   ·exact (hn z y).same u
   ·have e:z=(n,r.2):=by simpa using y
    rw [e];exact ai
  rintro zs σ Hy ⟨⟨rt,rfl,e,hn⟩,sy,g,rfl⟩ l hl'
  rw [List.length_map,take_all _ (by simp)] at e
  have u:=ao (o:=.lst (aj rt)) (ae.refl Hy) hl'
  have l8:upd Hy l (.lst (aj rt)) l=some (.lst (aj rt)):=ai
  generalize upd Hy l (.lst (aj rt))=Hz at u l8 ⊢
  refine⟨l,_,rfl,.inl ⟨SqL.of l8,fun n hn'=>?_⟩⟩
  have u2:=ao (o:=.tup (aj rt)) (ae.refl Hz) hn'
  have el:rt.length=rws.length:=by have:=congrArg List.length e;simpa using this
  refine hk n rt _ (s5.trans (sx.trans (sy.trans (u.trans u2)))) ai (fun r hr=>(hn r hr).same (u.trans u2)) (by omega) (fun r hr=>?_) (fun i j hi hj=>by rw [e];exact hat i j hi hj)
  have:r.2∈rws.map (·.2):=by rw [<- e];exact List.mem_map.mpr ⟨r,hr,rfl⟩
  obtain⟨r',h1,h2⟩:=List.mem_map.mp this
  rw [<- h2];exact hl r' h1
end
end K81
namespace DT
theorem jU {n k:Nat} (hk:k < n) {M:Mx} (h:∀c,c < n->M k c=0):dt n M=0:=by
 rw [fO hk (A:=M) (B:=M) 0 0 (fun _ _ _ _ _=>rfl) (fun _ _ _ _ _=>rfl) fun c hc=>by rw [h c hc];rfl]
 simp
theorem cY (b:Nat):∀{n a:Nat}{M:Mx},a<=n->b<=n->(∀c,c < n + 1->M a c=if c=b then 1 else 0)->dt (n + 1) M=sg (a + b) * dt n (fun r c=>M (skip a r) (skip b c)):=by
 induction b with
 | zero =>
  intro n a M ha _ h
  rw [dt,dh (k:=a) ha,h 0 (by omega),if_pos rfl]
  rw [dN fun i hi=>by
   obtain⟨a',ha',e⟩:∃a',a' < n/\skip (skip a i) a'=a:=by
    by_cases c:i < a
    ·exact⟨a - 1,by omega,by unfold skip;grind⟩
    ·exact⟨a,by omega,by unfold skip;grind⟩
   rw [jU ha' fun c hc=>by simp only [e];rw [h (c + 1) (by omega),if_neg (by omega)]]
   exact Int.mul_zero _]
  have e:(fun r c=>M (skip a r) (skip 0 c))=fun r c=>M (skip a r) (c + 1):=by funext r c;simp [skip]
  rw [e];simp
 | succ b ih =>
  intro n a M ha hb h
  obtain⟨m,rfl⟩:∃m,n=m + 1:=⟨n - 1,by omega⟩
  rw [dt,dh (k:=a) ha,h 0 (by omega),if_neg (by omega),Int.mul_zero,Int.zero_mul,Int.zero_add,show dt (m + 1) (fun r c=>M (skip a r) (skip (b + 1) c))=sm (m + 1) fun i=>sg i * M (skip a i) (skip (b + 1) 0) * dt m (fun r c=>M (skip a (skip i r)) (skip (b + 1) (c + 1))) from rfl,<- ju]
  refine dg fun i hi=>?_
  obtain⟨a',ha',e1,e2,e3⟩:∃a',a'<=m/\skip (skip a i) a'=a/\(∀r,skip (skip a i) (skip a' r)=skip a (skip i r))/\sg (skip a i) * sg (a' + b)=sg (a + (b + 1)) * sg i:=by
   by_cases c:i < a
   ·refine⟨a - 1,by omega,by unfold skip;grind,fun r=>by unfold skip;grind,?_⟩
    obtain⟨x,rfl⟩:∃x,a=x + 1:=⟨a - 1,by omega⟩
    rw [show skip (x + 1) i=i by simp [skip,c],show x + 1 - 1=x by omega,eR,eR,cQ,cQ];grind
   ·refine⟨a,by omega,by unfold skip;grind,fun r=>by unfold skip;grind,?_⟩
    rw [show skip a i=i + 1 by simp [skip,c],cQ,<- Nat.add_assoc,cQ];grind
  rw [ih (n:=m) (a:=a') (M:=fun r c=>M (skip (skip a i) r) (c + 1)) ha' (by omega) fun c hc=>by
   simp only [e1]
   rw [h (c + 1) (by omega)]
   by_cases d:c=b
   ·rw [if_pos d,if_pos (by omega)]
   ·rw [if_neg d,if_neg (by omega)]]
  have e4:dt m (fun r c=>M (skip (skip a i) (skip a' r)) (skip b c + 1))=dt m (fun r c=>M (skip a (skip i r)) (skip (b + 1) (c + 1))):=a8 fun r c _ _=>by
   rw [e2,show skip (b + 1) (c + 1)=skip b c + 1 by unfold skip;grind]
  rw [e4,show skip (b + 1) 0=0 by simp [skip]]
  grind
theorem gD {n k:Nat} (hk:k < n) (M:Mx) (u:Nat->Int) (v:Nat->Nat->Int):∀m,dt n (aE M k fun c=>sm m fun j=>u j * v j c)=sm m fun j=>u j * dt n (aE M k (v j))
 | 0=>jU hk fun c _=>by simp [aE,sm]
 | m + 1=>by
  have e:(fun c=>sm (m + 1) fun j=>u j * v j c)=fun c=>1 * (sm m fun j=>u j * v j c) + u m * v m c:=by funext c;rw [sm];omega
  rw [e,eG hk,gD hk M u v m,sm];omega
theorem nP {n:Nat} (c:Nat) (hc:c < n) (f:Nat->Int):sm n (fun j=>f j * if c=j then 1 else 0)=f c:=by
 obtain⟨m,rfl⟩:∃m,n=m + 1:=⟨n - 1,by omega⟩
 rw [dh (k:=c) (by omega),if_pos rfl,dN fun i _=>by rw [if_neg (by unfold skip;split <;> omega)];simp]
 omega
theorem nX (k:Nat) (N:Mx):dt (k + 1) N=sm (k + 1) fun j=>N k j * (sg (k + j) * dt k (fun r c=>N r (skip j c))):=by
 have e:dt (k + 1) N=dt (k + 1) (aE N k fun c=>sm (k + 1) fun j=>N k j * if c=j then 1 else 0):=a8 fun r c _ hc=>by
  unfold aE
  split
  ·rename_i h
   rw [h]
   exact (nP c hc (N k)).symm
  ·rfl
 rw [e,gD (by omega) N (N k) (fun j c=>if c=j then 1 else 0) (k + 1)]
 refine dg fun j hj=>?_
 rw [cY j (a:=k) (by omega) (by omega) fun c _=>by simp [aE]]
 congr 2
 refine a8 fun r c hr _=>?_
 unfold aE
 rw [show skip k r=r by simp [skip,hr],if_neg (by omega)]
noncomputable def Inc (n k:Nat) (S:List Nat):Prop:=S.Pairwise (· < ·)/\S.length=k/\∀x∈S,x < n
noncomputable def Dk (M:Mx) (S:List Nat):Int:=dt S.length (fun r c=>M r ((S[c]?).getD 0))
noncomputable def ins (c:Nat) (S:List Nat):List Nat:=S.filter (fun x=>decide (x < c))++c::S.filter (fun x=>decide (c < x))
noncomputable def con (M:Mx) (k:Nat) (p:List Nat×Nat):Int:=Dk M p.1 * M k p.2 * sg ((p.1.filter fun x=>decide (p.2 < x)).length)
theorem fI:∀{S T:List Nat},S.Pairwise (· < ·)->T.Pairwise (· < ·)->(∀x,x∈S ↔ x∈T)->S=T
 | [],[],_,_,_=>rfl
 | [],t::T,_,_,h=>by have:=(h t).mpr List.mem_cons_self;simp at this
 | s::S,[],_,_,h=>by have:=(h s).mp List.mem_cons_self;simp at this
 | s::S,t::T,hS,hT,h=>by
  obtain⟨s1,s2⟩:=List.pairwise_cons.mp hS
  obtain⟨t1,t2⟩:=List.pairwise_cons.mp hT
  have e:s=t:=by
   have a1:=(h s).mp List.mem_cons_self
   have a2:=(h t).mpr List.mem_cons_self
   rcases List.mem_cons.mp a1 with z | z
   ·exact z
   ·rcases List.mem_cons.mp a2 with y | y
    ·exact y.symm
    ·have:=t1 s z
     have:=s1 t y
     omega
  subst e
  rw [fI s2 t2 fun x=>by
   have hx:=h x
   rw [List.mem_cons,List.mem_cons] at hx
   constructor
   ·intro z
    rcases hx.mp (.inr z) with y | y
    ·subst y;have:=s1 x z;omega
    ·exact y
   ·intro z
    rcases hx.mpr (.inr z) with y | y
    ·subst y;have:=t1 x z;omega
    ·exact y]
theorem eO {S:List Nat} (h:S.Pairwise (· < ·)):S.Nodup:=h.imp fun h=>Nat.ne_of_lt h
theorem dO {c:Nat}{S:List Nat}{x:Nat} (hc:c∉S):x∈ins c S ↔ x=c\/x∈S:=by
 unfold ins
 simp only [List.mem_append,List.mem_cons,List.mem_filter,decide_eq_true_eq]
 constructor
 ·rintro (h | h | h)
  ·exact .inr h.1
  ·exact .inl h
  ·exact .inr h.1
 ·rintro (h | h)
  ·exact .inr (.inl h)
  ·rcases Nat.lt_trichotomy x c with z | z | z
   ·exact .inl ⟨h,z⟩
   ·exact .inr (.inl z)
   ·exact .inr (.inr ⟨h,z⟩)
theorem eU {c:Nat}{S:List Nat} (h:S.Pairwise (· < ·)):(ins c S).Pairwise (· < ·):=by
 unfold ins
 rw [List.pairwise_append]
 refine⟨h.filter _,List.pairwise_cons.mpr ⟨fun x hx=>by simpa using (List.mem_filter.mp hx).2,h.filter _⟩,fun a ha b hb=>?_⟩
 have h1:a < c:=by simpa using (List.mem_filter.mp ha).2
 rcases List.mem_cons.mp hb with z | z
 ·omega
 ·have h2:c < b:=by simpa using (List.mem_filter.mp z).2
  omega
theorem iL {c:Nat}{S:List Nat} (h:S.Pairwise (· < ·)) (hc:c∉S):(ins c S).Perm (S++[c]):=by
 have nd2:(S++[c]).Nodup:=by
  rw [List.nodup_append]
  exact⟨eO h,by simp,fun a ha b hb z=>hc ((show b=c by simpa using hb) ▸ z ▸ ha)⟩
 rw [List.perm_ext_iff_of_nodup (eO (eU h)) nd2]
 intro x
 rw [dO hc]
 simp
 exact or_comm
theorem oz {n k c:Nat}{S:List Nat} (h:Inc n k S) (hc:c∉S) (hn:c < n):Inc n (k + 1) (ins c S):=by
 refine⟨eU h.1,?_,fun x hx=>?_⟩
 ·rw [(iL h.1 hc).length_eq];simp [h.2.1]
 ·rcases (dO hc).mp hx with z | z
  ·rw [z];exact hn
  ·exact h.2.2 x z
theorem eQ {T:List Nat} (h:T.Pairwise (· < ·)) {j x:Nat} (hj:j < T.length):x∈T.eraseIdx j ↔ x∈T/\x≠T[j]:=by
 rw [List.mem_eraseIdx_iff_getElem]
 constructor
 ·rintro⟨i,hi,hne,rfl⟩
  exact⟨List.getElem_mem hi,fun z=>hne ((List.getElem_inj (eO h)).mp z)⟩
 ·rintro⟨h1,h2⟩
  obtain⟨i,hi,rfl⟩:=List.mem_iff_getElem.mp h1
  exact⟨i,hi,fun z=>h2 (by subst z;rfl),rfl⟩
theorem fW {T:List Nat} (h:T.Pairwise (· < ·)) (j:Nat):(T.eraseIdx j).Pairwise (· < ·):=h.sublist (List.eraseIdx_sublist _ _)
theorem iB {n k:Nat}{T S:List Nat}{c:Nat} (hT:Inc n (k + 1) T):(Inc n k S/\c < n/\c∉S/\ins c S=T) ↔ ∃j,j < k + 1/\S=T.eraseIdx j/\T[j]?=some c:=by
 constructor
 ·rintro⟨hS,hc,hcS,rfl⟩
  have hm:c∈ins c S:=(dO hcS).mpr (.inl rfl)
  obtain⟨j,hj,e⟩:=List.mem_iff_getElem.mp hm
  refine⟨j,by rw [<- hT.2.1];exact hj,?_,by rw [List.getElem?_eq_getElem hj,e]⟩
  refine fI hS.1 (fW hT.1 j) fun x=>?_
  rw [eQ hT.1 hj,e,dO hcS]
  constructor
  ·intro z
   exact⟨.inr z,fun y=>hcS (y ▸ z)⟩
  ·rintro⟨z | z,y⟩
   ·exact absurd z y
   ·exact z
 ·rintro⟨j,hj,rfl,e⟩
  have hj':j < T.length:=by rw [hT.2.1];exact hj
  rw [List.getElem?_eq_getElem hj'] at e
  have e:=Option.some.inj e
  have hcS:c∉T.eraseIdx j:=fun z=>((eQ hT.1 hj').mp z).2 e.symm
  refine⟨⟨fW hT.1 j,by rw [List.length_eraseIdx_of_lt hj',hT.2.1];omega,fun x hx=>hT.2.2 x ((eQ hT.1 hj').mp hx).1⟩,hT.2.2 c (by rw [<- e];exact List.getElem_mem hj'),hcS,?_⟩
  refine fI (eU (fW hT.1 j)) hT.1 fun x=>?_
  rw [dO hcS,eQ hT.1 hj',e]
  constructor
  ·rintro (z | z)
   ·rw [z,<- e];exact List.getElem_mem hj'
   ·exact z.1
  ·intro z
   by_cases y:x=c
   ·exact .inl y
   ·exact .inr ⟨z,y⟩
theorem oX (M:Mx) {n k:Nat}{T:List Nat} (hT:Inc n (k + 1) T) {j:Nat} (hj:j < k + 1):con M k (T.eraseIdx j,(T[j]?).getD 0)=M k ((T[j]?).getD 0) * (sg (k + j) * dt k (fun r c=>M r ((T[skip j c]?).getD 0))):=by
 have hj':j < T.length:=by rw [hT.2.1];exact hj
 have hl:(T.eraseIdx j).length=k:=by rw [List.length_eraseIdx_of_lt hj',hT.2.1];omega
 have e1:Dk M (T.eraseIdx j)=dt k (fun r c=>M r ((T[skip j c]?).getD 0)):=by
  unfold Dk
  rw [hl]
  refine a8 fun r c _ _=>?_
  rw [List.getElem?_eraseIdx]
  unfold skip
  split <;> rfl
 have e2:((T.eraseIdx j).filter fun x=>decide (T[j] < x)).length=k - j:=by
  have e3:T.eraseIdx j=T.take j++T.drop (j + 1):=List.eraseIdx_eq_take_drop_succ _ _
  have hp:=List.pairwise_iff_getElem.mp hT.1
  rw [e3,List.filter_append,List.filter_eq_nil_iff.mpr fun x hx=>by
   obtain⟨i,hi,rfl⟩:=List.mem_iff_getElem.mp hx
   rw [List.getElem_take]
   have hi':i < j:=by simp at hi;omega
   have:=hp i j (by omega) hj' hi'
   simp;omega,List.nil_append,List.filter_eq_self.mpr fun x hx=>by
   obtain⟨i,hi,rfl⟩:=List.mem_iff_getElem.mp hx
   rw [List.getElem_drop]
   have hi':j + 1 + i < T.length:=by simp at hi;omega
   have:=hp j (j + 1 + i) hj' hi' (by omega)
   simpa using this,List.length_drop,hT.2.1]
  omega
 unfold con
 rw [List.getElem?_eq_getElem hj',Option.getD_some]
 dsimp only
 rw [e1,e2]
 have e4:sg (k - j)=sg (k + j):=by
  have:k + j=(k - j) + (j + j):=by omega
  rw [this,eR,eR,qh];omega
 rw [e4]
 grind
theorem lW (n:Nat) (f:Nat->Int):((List.range n).map f).sum=sm n f:=by
 induction n with
 | zero=>rfl
 | succ n ih=>rw [List.range_succ,List.map_append,List.sum_append,ih,sm];simp
theorem mY {l m:List Int} (h:l.Perm m):l.sum=m.sum:=by
 induction h with
 | nil=>rfl
 | cons x _ ih=>simp [ih]
 | swap x y l=>simp;omega
 | trans _ _ h1 h2=>exact h1.trans h2
theorem oo (M:Mx) {n k:Nat}{T:List Nat} (hT:Inc n (k + 1) T) {P:List (List Nat×Nat)} (nd:P.Nodup) (hP:∀p,p∈P ↔ Inc n k p.1/\p.2 < n/\p.2∉p.1) :
  ((P.filter fun p=>decide (ins p.2 p.1=T)).map (con M k)).sum=Dk M T:=by
 have pm:(P.filter fun p=>decide (ins p.2 p.1=T)).Perm ((List.range (k + 1)).map fun j=>(T.eraseIdx j,(T[j]?).getD 0)):=by
  rw [List.perm_ext_iff_of_nodup (nd.filter _)]
  ·intro p
   rw [List.mem_filter,hP,List.mem_map]
   have q:=iB (S:=p.1) (c:=p.2) hT
   constructor
   ·rintro⟨⟨a,b,c⟩,d⟩
    obtain⟨j,hj,e1,e2⟩:=q.mp ⟨a,b,c,by simpa using d⟩
    exact⟨j,List.mem_range.mpr hj,by rw [e2];exact Prod.ext e1.symm rfl⟩
   ·rintro⟨j,hj,rfl⟩
    have hj':j < T.length:=by rw [hT.2.1];exact List.mem_range.mp hj
    obtain⟨a,b,c,d⟩:=q.mpr ⟨j,List.mem_range.mp hj,rfl,by rw [List.getElem?_eq_getElem hj'];rfl⟩
    exact⟨⟨a,b,c⟩,by simpa using d⟩
  ·rw [List.nodup_iff_pairwise_ne,List.pairwise_map]
   refine List.Pairwise.imp_of_mem (fun {a b} ha hb h z=>?_) (List.nodup_range (n:=k + 1))
   have ha':a < T.length:=by rw [hT.2.1];exact List.mem_range.mp ha
   have hb':b < T.length:=by rw [hT.2.1];exact List.mem_range.mp hb
   have:=congrArg Prod.snd z
   simp only [List.getElem?_eq_getElem ha',List.getElem?_eq_getElem hb',Option.getD_some] at this
   exact h ((List.getElem_inj (eO hT.1)).mp this)
 rw [mY (pm.map (con M k)),List.map_map]
 have e:((List.range (k + 1)).map (con M k ∘ fun j=>(T.eraseIdx j,(T[j]?).getD 0)))=(List.range (k + 1)).map fun j=>M k ((T[j]?).getD 0) * (sg (k + j) * dt k (fun r c=>M r ((T[skip j c]?).getD 0))):=List.map_congr_left fun j hj=>oX M hT (List.mem_range.mp hj)
 rw [e,lW]
 unfold Dk
 rw [hT.2.1,nX]
theorem mh (n:Nat):Inc n n (List.range n):=⟨List.pairwise_lt_range,List.length_range,fun x hx=>List.mem_range.mp hx⟩
theorem pe (M:Mx) (n:Nat):Dk M (List.range n)=dt n M:=by
 unfold Dk
 rw [List.length_range]
 refine a8 fun r c _ hc=>?_
 rw [List.getElem?_range hc];rfl
theorem m8 (M:Mx) {n k b:Nat}{S:List Nat} (h:Inc n k S) (hn:n<=8) (b1:1<=b) (hk:k<=n) (hb:∀r c,r < n->c < n->(M r c).natAbs<=b):(Dk M S).natAbs<=fac 8 * b ^ 8:=by
 unfold Dk
 rw [h.2.1]
 refine Nat.le_trans (eN fun r c hr hc=>?_) (Nat.mul_le_mul ?_ (Nat.pow_le_pow_right b1 (by omega)))
 ·rw [List.getElem?_eq_getElem (by rw [h.2.1];exact hc),Option.getD_some]
  exact hb _ _ (by omega) (h.2.2 _ (List.getElem_mem _))
 ·have:∀n,n < 9->fac n<=fac 8:=by decide
  exact this k (by omega)
end DT
namespace K81
open PySem L2 DT
noncomputable def kS (S:List Nat):List Key:=S.map fun c:Nat=>Sum.inl (c:Int)
noncomputable def vS (S:List Nat):List V:=S.map fun c:Nat=>V.int (c:Int)
theorem fL:∀{S T:List Nat},kS S=kS T->S=T
 | [],[],_=>rfl
 | [],_::_,h=>by cases h
 | _::_,[],h=>by cases h
 | s::S,t::T,h=>by
  unfold kS at h
  rw [List.map_cons,List.map_cons] at h
  obtain⟨h1,h2⟩:=List.cons.inj h
  have h3:(s:Int)=t:=Sum.inl.inj h1
  rw [fL (S:=S) (T:=T) h2,show s=t by omega]
theorem fe (S:List Nat):(kS S).map kV=vS S:=by unfold kS vS;rw [List.map_map];rfl
noncomputable abbrev bh (ts:List (List Nat)) (f:List Nat->Int):List (List Key×V):=ts.map fun T=>(kS T,V.int (f T))
theorem df (f:List Nat->Int) (T:List Nat):∀ts:List (List Nat),aW (bh ts f) (kS T)=if T∈ts then some (.int (f T)) else none
 | []=>rfl
 | S::ts=>by
  have ih:=df f T ts
  unfold bh
  rw [List.map_cons]
  by_cases e:S=T
  ·subst e
   rw [bF rfl,if_pos List.mem_cons_self]
  ·rw [bG (fun z=>e (fL z))]
   show aW (bh ts f) (kS T)=_
   rw [ih]
   have:T∈S::ts ↔ T∈ts:=by simp [Ne.symm e]
   simp only [this]
noncomputable def bZ (M:Mx) (k:Nat) (Pr:List (List Nat×Nat)) (T:List Nat):Int:=((Pr.filter fun p=>decide (ins p.2 p.1=T)).map (con M k)).sum
theorem fj (M:Mx) (k:Nat) (Pr:List (List Nat×Nat)) (p:List Nat×Nat) (T:List Nat):bZ M k (Pr++[p]) T=bZ M k Pr T + if ins p.2 p.1=T then con M k p else 0:=by
 unfold bZ
 rw [List.filter_append,List.map_append,List.sum_append]
 congr 1
 by_cases h:ins p.2 p.1=T <;> simp [h]
theorem mJ {M:Mx}{k:Nat}{Pr:List (List Nat×Nat)}{T:List Nat} (h:∀p∈Pr,ins p.2 p.1≠T):bZ M k Pr T=0:=by
 unfold bZ
 rw [List.filter_eq_nil_iff.mpr fun p hp=>by simpa using h p hp]
 rfl
noncomputable def LtI (M:Mx) (k:Nat) (Pr:List (List Nat×Nat)) (kvs:List (List Key×V)):Prop:=∃ts:List (List Nat),kvs=bh ts (bZ M k Pr)/\ts.Nodup/\∀T,T∈ts ↔ ∃p∈Pr,ins p.2 p.1=T
theorem LtI.get {M:Mx}{k:Nat}{Pr:List (List Nat×Nat)}{kvs:List (List Key×V)} (h:LtI M k Pr kvs) (T:List Nat):(aW kvs (kS T)).getD (.int 0)=.int (bZ M k Pr T):=by
 obtain⟨ts,rfl,nd,hm⟩:=h
 rw [df]
 by_cases e:T∈ts
 ·rw [if_pos e];rfl
 ·rw [if_neg e,mJ fun p hp z=>e ((hm T).mpr ⟨p,hp,z⟩)];rfl
theorem LtI.step {M:Mx}{k:Nat}{Pr:List (List Nat×Nat)}{kvs:List (List Key×V)} (h:LtI M k Pr kvs) (p:List Nat×Nat):LtI M k (Pr++[p]) (putK kvs (kS (ins p.2 p.1)) (.int (bZ M k Pr (ins p.2 p.1) + con M k p))):=by
 obtain⟨ts,rfl,nd,hm⟩:=h
 by_cases e:ins p.2 p.1∈ts
 ·refine⟨ts,?_,nd,fun T=>?_⟩
  ·unfold putK
   rw [cK,df,if_pos e]
   simp only [Option.isSome_some,if_true]
   unfold bh
   rw [List.map_map]
   refine List.map_congr_left fun T _=>?_
   simp only [Function.comp]
   rw [fj]
   by_cases z:ins p.2 p.1=T
   ·rw [if_pos (by rw [z]),if_pos z,z]
   ·rw [if_neg (fun y=>z (fL y).symm),if_neg z,Int.add_zero]
  ·rw [hm T]
   constructor
   ·rintro⟨q,hq,z⟩
    exact⟨q,List.mem_append_left _ hq,z⟩
   ·rintro⟨q,hq,z⟩
    rcases List.mem_append.mp hq with y | y
    ·exact⟨q,y,z⟩
    ·have:q=p:=by simpa using y
     subst this
     rw [<- z];exact (hm _).mp e
 ·refine⟨ts++[ins p.2 p.1],?_,gM nd e,fun T=>?_⟩
  ·unfold putK
   rw [cK,df,if_neg e]
   simp only [Option.isSome_none,Bool.false_eq_true,if_false]
   unfold bh
   rw [List.map_append]
   congr 1
   ·refine List.map_congr_left fun T hT=>?_
    rw [fj,if_neg (fun z=>e (by rw [z];exact hT)),Int.add_zero]
   ·rw [List.map_singleton,fj,if_pos rfl]
  ·rw [List.mem_append,hm T]
   constructor
   ·rintro (⟨q,hq,z⟩ | z)
    ·exact⟨q,List.mem_append_left _ hq,z⟩
    ·exact⟨p,by simp,(show T=ins p.2 p.1 by simpa using z).symm⟩
   ·rintro⟨q,hq,z⟩
    rcases List.mem_append.mp hq with y | y
    ·exact .inl ⟨q,y,z⟩
    ·have:q=p:=by simpa using y
     subst this
     exact .inr (by simp [z])
theorem LtI.nil (M:Mx) (k:Nat):LtI M k [] []:=⟨[],rfl,List.nodup_nil,fun T=>by simp⟩
noncomputable def KnI (n k:Nat) (M:Mx) (kvs:List (List Key×V)):Prop:=∃ks:List (List Nat),kvs=bh ks (Dk M)/\ks.Nodup/\∀S,S∈ks ↔ Inc n k S
theorem KnI.zero (n:Nat) (M:Mx):KnI n 0 M [([],.int 1)]:=by
 refine⟨[[]],?_,by simp,fun S=>?_⟩
 ·show [(([]:List Key),V.int 1)]=[(kS [],V.int (Dk M []))]
  have:Dk M []=1:=rfl
  rw [this];rfl
 ·constructor
  ·intro h
   have:S=[]:=by simpa using h
   subst this
   exact⟨.nil,rfl,by simp⟩
  ·intro h
   have:S=[]:=List.length_eq_zero_iff.mp h.2.1
   simp [this]
noncomputable def prs (n:Nat) (S:List Nat) (m:Nat):List (List Nat×Nat):=((List.range m).filter fun c=>decide (c∉S)).map fun c=>(S,c)
theorem iH (n:Nat) (S:List Nat) (m:Nat):prs n S (m + 1)=prs n S m++if m∈S then [] else [(S,m)]:=by
 unfold prs
 rw [List.range_succ,List.filter_append,List.map_append]
 congr 1
 by_cases h:m∈S <;> simp [h]
theorem KnI.next {n k:Nat}{M:Mx}{ks:List (List Nat)}{kvs:List (List Key×V)} (nd:ks.Nodup) (hm:∀S,S∈ks ↔ Inc n k S) (h:LtI M k (ks.flatMap fun S=>prs n S n) kvs):KnI n (k + 1) M kvs:=by
 obtain⟨ts,rfl,nd2,hm2⟩:=h
 have hP:∀p,p∈(ks.flatMap fun S=>prs n S n) ↔ Inc n k p.1/\p.2 < n/\p.2∉p.1:=fun p=>by
  rw [List.mem_flatMap]
  unfold prs
  constructor
  ·rintro⟨S,hS,hp⟩
   obtain⟨c,hc,rfl⟩:=List.mem_map.mp hp
   obtain⟨h1,h2⟩:=List.mem_filter.mp hc
   exact⟨(hm S).mp hS,List.mem_range.mp h1,by simpa using h2⟩
  ·rintro⟨h1,h2,h3⟩
   exact⟨p.1,(hm _).mpr h1,List.mem_map.mpr ⟨p.2,List.mem_filter.mpr ⟨List.mem_range.mpr h2,by simpa using h3⟩,rfl⟩⟩
 have ndP:(ks.flatMap fun S=>prs n S n).Nodup:=by
  rw [List.nodup_iff_pairwise_ne,List.pairwise_flatMap]
  refine⟨fun S _=>?_,nd.imp fun {a b} hab x hx y hy z=>?_⟩
  ·unfold prs
   rw [List.pairwise_map]
   exact (List.nodup_range.filter _).imp fun h z=>h (congrArg Prod.snd z)
  ·obtain⟨c,_,rfl⟩:=List.mem_map.mp hx
   obtain⟨d,_,rfl⟩:=List.mem_map.mp hy
   exact hab (congrArg Prod.fst z)
 have key:∀T,T∈ts ↔ Inc n (k + 1) T:=fun T=>by
  rw [hm2 T]
  constructor
  ·rintro⟨p,hp,rfl⟩
   obtain⟨h1,h2,h3⟩:=(hP p).mp hp
   exact oz h1 h3 h2
  ·intro hT
   obtain⟨c,hc⟩:∃c,T[0]?=some c:=⟨T[0]'(by rw [hT.2.1];omega),List.getElem?_eq_getElem _⟩
   obtain⟨h1,h2,h3,h4⟩:=(iB (S:=T.eraseIdx 0) (c:=c) hT).mpr ⟨0,by omega,rfl,hc⟩
   exact⟨(T.eraseIdx 0,c),(hP _).mpr ⟨h1,h2,h3⟩,h4⟩
 refine⟨ts,?_,nd2,key⟩
 unfold bh
 refine List.map_congr_left fun T hT=>?_
 rw [show bZ M k (ks.flatMap fun S=>prs n S n) T=Dk M T from oo M ((key T).mp hT) ndP hP]
theorem oP (c:Nat) (S:List Nat):inV (.int (c:Int)) (vS S)=decide (c∈S):=by
 unfold inV vS
 rw [List.any_map,Bool.eq_iff_iff,List.any_eq_true,decide_eq_true_iff]
 constructor
 ·rintro⟨y,hy,e⟩
  have e':(y:Int)=c:=by simpa [eqV] using e
  rw [show c=y by omega];exact hy
 ·intro h
  exact⟨c,h,by simp [eqV]⟩
theorem mw (S:List Nat):(vS S).all bL=true:=by
 unfold vS
 rw [List.all_map,List.all_eq_true]
 intro y _
 rfl
theorem mQ {S:List Nat}{c:Nat}{ns:List Int} (hS:S.Pairwise (· < ·)) (hc:c∉S) (hp:ns.Perm ((S++[c]).map fun x:Nat=>(x:Int))) (hs:ns.Pairwise (·<=·)):ns=(ins c S).map fun x:Nat=>(x:Int):=by
 have hp2:ns.Perm ((ins c S).map fun x:Nat=>(x:Int)):=hp.trans ((iL hS hc).symm.map _)
 have ext:∀(a b:List Int),a.Perm b->a.Pairwise (·<=·)->b.Pairwise (·<=·)->a=b:=fun a=>by
  induction a with
  | nil=>intro b h _ _;exact h.nil_eq
  | cons x a ih =>
   intro b h ha hb
   cases b with
   | nil=>exact absurd h.length_eq (by simp)
   | cons y b =>
    obtain⟨a1,a2⟩:=List.pairwise_cons.mp ha
    obtain⟨b1,b2⟩:=List.pairwise_cons.mp hb
    have e:x=y:=by
     have m1:=h.mem_iff.mp (List.mem_cons_self (a:=x) (l:=a))
     have m2:=h.mem_iff.mpr (List.mem_cons_self (a:=y) (l:=b))
     rcases List.mem_cons.mp m1 with z | z
     ·exact z
     ·rcases List.mem_cons.mp m2 with w | w
      ·exact w.symm
      ·have:=b1 x z
       have:=a1 y w
       omega
    subst e
    rw [ih b (List.Perm.cons_inv h) a2 b2]
 refine ext _ _ hp2 hs ?_
 rw [List.pairwise_map]
 exact (eU hS).imp fun h=>by omega
theorem rC:fac 8 * (2 ^ 128) ^ 8 < 2 ^ 3000:=by decide +kernel
theorem rh:fac 8 * (2 ^ 128) ^ 8 * 2 ^ 128 < 2 ^ 3000:=by decide +kernel
theorem qR:2 ^ 128 < 2 ^ 3000:=by decide +kernel
theorem oG {K:PySem.W.Frag}{H:Hp}{a b:Addr}{xs ys:List V}{Φ:VK} (ha:H a=some (.tup xs)) (hb:H b=some (.tup ys)) (hz:xs.length + ys.length<=sizeLine) (h:∀tp He,ae H He->He tp=some (.tup (xs++ys))->Φ (.ref tp) He):j7 K (.ref a) (.ref b) H Φ :=
 ⟨a,b,xs,ys,rfl,rfl,SqT.of ha,SqT.of hb,hz,fun z=>h b H (ae.refl _) (by rw [hb,z];rfl),fun z=>h a H (ae.refl _) (by rw [ha,z,List.append_nil]),fun p hp=>h p _ (ao (ae.refl _) hp) ai⟩
section
variable {P:Program}{w:World}{K:PySem.W.Frag}{mg:Str->Option Value}{base:Heap}
noncomputable def jD:Sp:=fun vs H Q _=>∃(a:Addr) (rws:List (Addr×List Int)),vs=[.ref a]/\H a=some (.tup (aj rws))/\(∀r∈rws,aD H false r)/\(∀r∈rws,r.2.length=rws.length)/\rws.length<=8/\(∀r∈rws,∀x∈r.2,x.natAbs<=2 ^ 128) /\
 ∀H',ae H H'->Q (.int (dt rws.length (at2 (rws.map (·.2))))) H'
noncomputable abbrev N28:List Str:=["_law_rows_here","_law_known","_law_row","_law_later","_law_taken","_law_at","_law_number_here","_law_ahead","_law_label","_law_more"]
theorem bQ:aQ N28 ["_law_rows_here"] (aF (top 28)):=⟨rfl,rfl,rfl,by decide +kernel,rfl,by decide +kernel,by decide +kernel⟩
theorem p6 {f:Addr}{fd:FuncData} (F:Fun K "_law_due" "_law_due" (top 28) f fd) (B:Bl mg):aH P w K mg base CX0 1 f fd ["_law_rows_here"] jD:=by
 refine F.ok bQ (fun vs H Q E h=>?_) (fun cdv A outer s H vs Q E hr h=>?_)
 ·obtain⟨a,rws,rfl,_⟩:=h
  rfl
 ·obtain⟨a,rws,rfl,ha,hrw,hlen,h8,hB,k⟩:=h
  refine⟨_,ak (au (i:=1) bQ.nd rfl (Or.inl rfl) (ml (lt0 hr) (ce ab) af))
   (ak (bU PassesOwn.never rfl (cb (pv 0)) (aZ (i:=2) bQ.nd rfl (Or.inl rfl))
    (ak (au (i:=3) bQ.nd rfl (Or.inl rfl) mN)
    (ak (bU PassesOwn.never rfl (nM (pv 1)) (aZ (i:=4) bQ.nd rfl (Or.inl rfl))
     (aq (bU PassesOwn.never rfl (pU rfl B.enumerate (aa (pv 2) ab)) (cB rfl (n:=2) (aR (aZ (i:=5) bQ.nd rfl (Or.inr rfl)) (aR (aZ (i:=6) bQ.nd rfl (Or.inl rfl)) bH)))
      (aq (aV (aL gy (pv 5) (pv 4) (by with_unfolding_all rfl))
       (ak (au (i:=7) bQ.nd rfl (Or.inl rfl) (aw bc rfl B.len PySem.boot_len (aa (bb (N:=["_law_column","_law_at"]) (ix:=[none,some 5]) ⟨rfl,rfl,rfl,by decide⟩ rfl (cb (pv 4)) (fun _ _ _ _=>aO 0 (by decide) rfl rfl) (fun _ _ _ _=>dj (aL dW (pv 0) (pv 1) (aN _))) (fun _ _ _ _=>pv 0)) ab)))
       (ak (au (i:=8) bQ.nd rfl (Or.inl rfl) (bT cJ rfl B.tuple bB (aa (aw k6 rfl B.sorted fA (aa (av oI (pv 4) (ce (aa (pv 5) ab))) ab)) ab)))
       (ak (au (i:=9) bQ.nd rfl (Or.inl rfl) (av dH (av dH (di (cH hr) (pv 1) (pv 4) (fun _ _=>rfl)) (pv 6)) (av cU af (av cT af (av cW (pv 7) af)))))
       (aq (oH (cH hr) (pv 3) (pv 8) (av bK (ng (cH hr) (pv 3) (pv 8) af ⟨rfl,rfl,rfl,rfl⟩) (pv 9)) rfl))))) aS)))))
    (aq (au (i:=1) bQ.nd rfl (Or.inl rfl) (pv 3))))))
   (aq (aI (di (cH hr) (pv 1) (oA rfl rfl B.range rfl B.tuple (aa (aw bc rfl B.len PySem.boot_len (aa (pv 0) ab)) ab)) (fun _ _=>rfl))))),?_⟩
  have hM0:∀r c,r < rws.length->c < rws.length->(at2 (rws.map (·.2)) r c).natAbs<=2 ^ 128:=fun r c hr hc=>by
   unfold at2
   rw [List.getElem?_map,List.getElem?_eq_getElem hr]
   have h1:=hlen rws[r] (List.getElem_mem hr)
   show ((rws[r].2[c]?).getD 0).natAbs<=_
   rw [List.getElem?_eq_getElem (by omega)]
   exact hB _ (List.getElem_mem hr) _ (List.getElem_mem _)
  have hrow:∀i r,rws[i]?=some r->∀c x,r.2[c]?=some x->x=at2 (rws.map (·.2)) i c:=fun i r hr c x hx=>by
   unfold at2
   rw [List.getElem?_map,hr]
   show x=(r.2[c]?).getD 0
   rw [hx];rfl
  generalize hM:at2 (rws.map (·.2))=M at hM0 hrow k
  generalize hn:rws.length=n at hlen h8 hM0 k
  have small:∀{k S},Inc n k S->k<=n->(Dk M S).natAbs<=fac 8 * (2 ^ 128) ^ 8:=fun h hk=>m8 M h h8 Nat.one_le_two_pow hk hM0
  intro kn0 hkn0
  have s1:=ao (o:=.dT []) (ae.refl H) hkn0
  have k1:upd H kn0 (.dT []) kn0=some (.dT []):=ai
  generalize upd H kn0 (.dT [])=H1 at s1 k1 ⊢
  refine⟨Nat.zero_le _,fun e0 he0=>?_⟩
  have s2:=ao (o:=.tup []) s1 he0
  have k2:upd H1 e0 (.tup []) kn0=some (.dT []):=by rw [ag (ax k1 he0)];exact k1
  have e2:upd H1 e0 (.tup []) e0=some (.tup []):=ai
  generalize upd H1 e0 (.tup [])=H2 at s2 k2 e2 ⊢
  refine⟨[],e0,rfl,e2,k2,?_⟩
  have s3:ae H (upd H2 kn0 (.dT [([],.int 1)])):=ae.upd0 s2 hkn0
  have k3:upd H2 kn0 (.dT [([],.int 1)]) kn0=some (.dT [([],.int 1)]):=ai
  generalize upd H2 kn0 (.dT [([],.int 1)])=H3 at s3 k3 ⊢
  refine⟨_,rfl,a,rfl,⟨_,SqT.of (s3 _ _ ha)⟩,?_⟩
  refine fG (K:=K) (a:=a) (xs:=aj rws) (fun i σ Hx=>∃(kn:Addr) (kvs:List (List Key×V)) (g2 g3 g4 g5 g6 g7 g8 g9:Option V),σ=[some (.ref a),some (.ref kn),g2,g3,g4,g5,g6,g7,g8,g9]/\H kn=none/\Hx kn=some (.dT kvs)/\KnI n i M kvs/\ae H Hx/\kvs.length<=8 ^ i)
   ⟨kn0,_,_,_,_,_,_,_,_,_,rfl,hkn0,k3,KnI.zero n M,s3,Nat.le_refl _⟩ (fun i σ Hx _ z=>by obtain⟨_,_,_,_,_,_,_,_,_,_,_,_,_,_,z,_⟩:=z;exact SqT.of (z _ _ ha)) ?_ ?_
  ·rintro i x σ Hx hx ⟨kn,kvs,g2,g3,g4,g5,g6,g7,g8,g9,rfl,kn0,kx,⟨ks,rfl,ksn,ksm⟩,sx,kl8⟩
   rw [List.length_map] at kl8
   rw [List.getElem?_map] at hx
   obtain⟨row,hrw',rfl⟩:∃row,rws[i]?=some row/\x=.ref row.1:=by
    cases e:rws[i]? with
    | none=>rw [e] at hx;cases hx
    | some z=>rw [e] at hx;cases hx;exact⟨z,rfl,rfl⟩
   have hil:i < rws.length:=(List.getElem?_eq_some_iff.mp hrw').1
   have hin:i < n:=by omega
   have hrm:=List.mem_of_getElem? hrw'
   have hrl:row.2.length=n:=hlen row hrm
   have r0:H row.1=some (.tup (row.2.map V.int)):=hrw row hrm
   intro lt hlt
   have lt0:H lt=none:=sx.free hlt
   have nkl:kn≠lt:=ax kx hlt
   have s4:=ao (o:=.dT []) sx hlt
   have k4:upd Hx lt (.dT []) kn=some (.dT (bh ks (Dk M))):=by rw [ag nkl];exact kx
   have l4:upd Hx lt (.dT []) lt=some (.dT []):=ai
   generalize upd Hx lt (.dT [])=H4 at s4 k4 l4 ⊢
   refine⟨_,rfl,kn,_,rfl,k4,fun o=>?_⟩
   have s5:ae H (upd H4 kn (.frz o (.dT (bh ks (Dk M))))):=ae.upd0 s4 kn0
   have k5:upd H4 kn (.frz o (.dT (bh ks (Dk M)))) kn=some (.frz o (.dT (bh ks (Dk M)))):=ai
   have l5:upd H4 kn (.frz o (.dT (bh ks (Dk M)))) lt=some (.dT []):=by rw [ag nkl.symm];exact l4
   generalize upd H4 kn (.frz o (.dT (bh ks (Dk M))))=H5 at s5 k5 l5 ⊢
   refine nc (kvs:=bh ks (Dk M)) (fun j σ Hy=>∃(lk:List (List Key×V)) (g4 g5 g6 g7 g8 g9:Option V),σ=[some (.ref a),some (.ref kn),some (.ref row.1),some (.ref lt),g4,g5,g6,g7,g8,g9]/\Hy kn=some (.frz o (.dT (bh ks (Dk M))))/\Hy lt=some (.dT lk)/\LtI M i ((ks.take j).flatMap fun S=>prs n S n) lk/\lk.length<=j * 8/\ae H Hy)
    ⟨[],_,_,_,_,_,_,rfl,k5,l5,LtI.nil M i,by simp,s5⟩ (fun j σ Hy _ z=>by obtain⟨_,_,_,_,_,_,_,_,z,_⟩:=z;exact z) ?_ ?_
   ·rintro j p b σ Hy hp hb ⟨lk,g4,g5,g6,g7,g8,g9,rfl,ky,ly,lti,lkl,sy⟩
    rw [List.getElem?_map] at hp
    obtain⟨S,hS,rfl⟩:∃S,ks[j]?=some S/\p=(kS S,V.int (Dk M S)):=by
     cases e:ks[j]? with
     | none=>rw [e] at hp;cases hp
     | some z=>rw [e] at hp;cases hp;exact⟨z,rfl,rfl⟩
    have hSm:=List.mem_of_getElem? hS
    have hSi:=(ksm S).mp hSm
    have hjl:j < ks.length:=(List.getElem?_eq_some_iff.mp hS).1
    have nlb:b≠lt:=fun z=>by rw [z,ly] at hb;cases hb
    rw [fe] at hb
    have Sv:(vS S)=(S.map fun x:Nat=>(x:Int)).map V.int:=by unfold vS;rw [List.map_map];rfl
    refine⟨_,rfl,row.1,_,rfl,SqT.of (sy _ _ r0),?_⟩
    refine oq (K:=K) (a:=row.1) (xs:=row.2.map V.int) (fun m σ Hz=>∃(lk':List (List Key×V)) (g5 g6 g7 g8 g9:Option V),σ=[some (.ref a),some (.ref kn),some (.ref row.1),some (.ref lt),some (.ref b),g5,g6,g7,g8,g9]/\Hz kn=some (.frz o (.dT (bh ks (Dk M))))/\Hz lt=some (.dT lk')/\Hz b=some (.tup (vS S))/\LtI M i (((ks.take j).flatMap fun S=>prs n S n)++prs n S m) lk'/\lk'.length<=j * 8 + m/\ae H Hz)
     ⟨lk,_,_,_,_,_,rfl,ky,ly,hb,by simpa [prs] using lti,by omega,sy⟩ (fun m σ Hz _ z=>by obtain⟨_,_,_,_,_,_,_,_,_,_,_,_,z⟩:=z;exact SqT.of (z _ _ r0)) ?_ ?_
    ·rintro m x σ Hz T hx ⟨lk',g5,g6,g7,g8,g9,rfl,kz,lz,bz,ltz,lkz,sz⟩ hT
     obtain⟨num,hnum,rfl⟩:=nat hx
     have hml:m < n:=by rw [<- hrl];exact (List.getElem?_eq_some_iff.mp hnum).1
     have hnv:num=M i m:=hrow i row hrw' m num hnum
     have hnb:num.natAbs<=2 ^ 128:=hB row hrm num (List.mem_of_getElem? hnum)
     have nTl:lt≠T:=ax lz hT
     have u1:=ao (o:=.tup [.int m,.int num]) (ae.refl Hz) hT
     have T1:upd Hz T (.tup [.int m,.int num]) T=some (.tup [.int m,.int num]):=ai
     generalize upd Hz T (.tup [.int m,.int num])=Ha at u1 T1 ⊢
     refine⟨T,_,rfl,SqT.of T1,rfl,_,_,rfl,_,_,rfl,rfl,?_⟩
     have ba:=u1 _ _ bz
     refine⟨_,rfl,_,rfl,b,_,rfl,.inr (SqT.of ba),rfl,mw S,_,rfl,?_⟩
     rw [if_pos rfl,oP]
     refine aX (fun c=>?_) (fun c=>?_)
     ·have hmS:m∉S:=by simpa using c
      refine⟨_,rfl,b,rfl,⟨_,SqT.of ba⟩,?_⟩
      refine eI (K:=K) (xs:=vS S) (fits (by unfold vS;rw [List.length_map,hSi.2.1];omega)) (fun q zs σ Hb=>zs=((S.take q).filter fun x=>decide (m < x)).map (fun x:Nat=>V.int x)/\Hb=Ha/\∃g,σ=[g,some (.int m)]) ⟨rfl,rfl,_,rfl⟩
       (fun q zs σ Hb hq z=>⟨by rw [z.1,List.length_map];exact Nat.le_trans (List.length_filter_le _ _) (by rw [List.length_take];omega),by rw [z.2.1];exact SqT.of ba⟩) ?_ ?_
      ·rintro q y zs σ Hb hy ⟨rfl,rfl,g,rfl⟩
       unfold vS at hy
       rw [List.getElem?_map] at hy
       obtain⟨z,hz,rfl⟩:∃z:Nat,S[q]?=some z/\y=.int (z:Int):=by
        cases e:S[q]? with
        | none=>rw [e] at hy;cases hy
        | some z=>rw [e] at hy;cases hy;exact⟨z,rfl,rfl⟩
       have tf:=dC (fun x:Nat=>decide (m < x)) S q z hz
       refine⟨_,rfl,_,rfl,_,_,rfl,rfl,_,rfl,?_⟩
       have e:decide ((z:Int) > (m:Int))=decide (m < z):=by
        by_cases h:m < z
        ·rw [decide_eq_true h,decide_eq_true (by omega)]
        ·rw [decide_eq_false h,decide_eq_false (by omega)]
       rw [e]
       refine aX (fun c=>⟨_,rfl,?_,rfl,_,rfl⟩) (fun c=>⟨?_,rfl,_,rfl⟩)
       ·rw [tf,c];simp
       ·rw [tf];simp only [Bool.not_eq_true] at c;rw [c];simp
      rintro zs σ Hb ⟨rfl,rfl,g,rfl⟩ cl hcl
      rw [show (vS S).length=S.length by unfold vS;rw [List.length_map],List.take_length]
      have u2:=ao (o:=.lst ((S.filter fun x=>decide (m < x)).map (fun x:Nat=>V.int x))) (ae.refl Hb) hcl
      have c2:upd Hb cl (.lst ((S.filter fun x=>decide (m < x)).map (fun x:Nat=>V.int x))) cl=some (.lst ((S.filter fun x=>decide (m < x)).map (fun x:Nat=>V.int x))):=ai
      generalize upd Hb cl (.lst ((S.filter fun x=>decide (m < x)).map (fun x:Nat=>V.int x)))=Hc at u2 c2 ⊢
      refine⟨cl,_,rfl,.inl (SqL.of c2),?_⟩
      rw [List.length_map]
      generalize hah:(S.filter fun x=>decide (m < x)).length=ah
      refine⟨_,rfl,_,rfl,by show 1<=sizeLine;decide,fun t1 ht1=>?_⟩
      have u3:=ao (o:=.tup [.int m]) u2 ht1
      have t3:upd Hc t1 (.tup [.int m]) t1=some (.tup [.int m]):=ai
      generalize upd Hc t1 (.tup [.int m])=Hd at u3 t3 ⊢
      have bd:=u3 _ _ ba
      refine oG bd t3 (by unfold vS;rw [List.length_map,hSi.2.1,sizeLine_eq];simp;omega) fun tp He se he=>?_
      have se:=u3.trans se
      have he':He tp=some (.tup (((S++[m]).map fun x:Nat=>(x:Int)).map V.int)):=by rw [he];unfold vS;rw [List.map_map,List.map_append];rfl
      refine⟨tp,(S++[m]).map fun x:Nat=>(x:Int),rfl,SqT.of he',by rw [List.length_map,List.length_append,hSi.2.1];simp;omega,fun ns' ql hp hs hql=>?_⟩
      have en:=mQ hSi.1 hmS hp hs
      subst en
      have u4:=ao (o:=.lst (((ins m S).map fun x:Nat=>(x:Int)).map V.int)) se hql
      have q4:upd He ql (.lst (((ins m S).map fun x:Nat=>(x:Int)).map V.int)) ql=some (.lst (((ins m S).map fun x:Nat=>(x:Int)).map V.int)):=ai
      generalize upd He ql (.lst (((ins m S).map fun x:Nat=>(x:Int)).map V.int))=Hf at u4 q4 ⊢
      refine⟨ql,_,rfl,.inl ⟨SqL.of q4,fun lb hlb=>?_⟩⟩
      have u5:=ao (o:=.tup (((ins m S).map fun x:Nat=>(x:Int)).map V.int)) u4 hlb
      have b5:upd Hf lb (.tup (((ins m S).map fun x:Nat=>(x:Int)).map V.int)) lb=some (.tup ((kS (ins m S)).map kV)):=by rw [ai,fe];unfold vS;rw [List.map_map];rfl
      generalize upd Hf lb (.tup (((ins m S).map fun x:Nat=>(x:Int)).map V.int))=Hg at u5 b5 ⊢
      have uz:=u1.trans u5
      have kg:=uz _ _ kz
      have lg:=uz _ _ lz
      have bg:=uz _ _ bz
      have hDb:=small hSi (by omega)
      have gd:cG Hg kn (.ref b) (some (.int (Dk M S))):=.inr ⟨bh ks (Dk M),kS S,b,.inr ⟨o,kg⟩,rfl,by rw [fe];exact bg,by rw [df,if_pos hSm]⟩
      refine⟨_,rfl,_,rfl,kn,_,rfl,gd,_,rfl,_,_,rfl,rfl,⟨Nat.lt_of_le_of_lt hDb rC,Nat.lt_of_le_of_lt hnb qR⟩,?_⟩
      refine⟨_,rfl,_,_,rfl,rfl,by show (0:Int) < 2;decide,_,_,rfl,rfl,.inl ⟨by decide,by decide⟩,_,_,rfl,rfl,_,_,rfl,rfl,⟨?_,?_⟩,?_⟩
      ·rw [Int.natAbs_mul]
       exact Nat.lt_of_le_of_lt (Nat.mul_le_mul hDb hnb) rh
      ·have:((1:Int) - 2 * ((ah:Int) % 2)).natAbs<=1:=by omega
       exact Nat.lt_of_le_of_lt this (Nat.one_lt_two_pow (by decide))
      have esg:(1:Int) - 2 * ((ah:Int) % 2)=sg ah:=by unfold sg;split <;> omega
      have ec:Dk M S * num * (1 - 2 * ((ah:Int) % 2))=con M i (S,m):=by
       rw [esg,hnv]
       unfold con
       rw [hah]
      have lgl:lk'.length < sizeLine:=by
       have h7:8 ^ i<=8 ^ 7:=Nat.pow_le_pow_right (by decide) (by omega)
       have h7':(8:Nat) ^ 7=2097152:=by decide
       clear hDb hnb ec esg
       rw [sizeLine_eq];omega
      have gl:cG Hg lt (.ref lb) (aW lk' (kS (ins m S))):=.inr ⟨lk',kS (ins m S),lb,.inl lg,rfl,b5,rfl⟩
      refine⟨_,rfl,lt,rfl,.inr ⟨lk',.inl lg⟩,_,rfl,_,gl,?_⟩
      rw [ltz.get]
      refine⟨_,rfl,_,_,rfl,rfl,_,rfl,_,rfl,lt,_,rfl,.inr ⟨lk',kS (ins m S),lb,lg,rfl,b5,lgl,rfl⟩,?_⟩
      have pl:=dD lk' (kS (ins m S)) (.int (bZ M i (((ks.take j).flatMap fun S=>prs n S n)++prs n S m) (ins m S) + con M i (S,m)))
      have st:=ltz.step (S,m)
      rw [<- ec] at st pl
      refine⟨_,_,_,_,_,_,rfl,?_,ai,?_,?_,Nat.le_trans pl (by omega),ae.upd0 (sz.trans uz) lt0⟩
      ·rw [ag (fun z=>by rw [z,lg] at kg;cases kg)];exact kg
      ·rw [ag nlb];exact bg
      ·rw [iH,if_neg hmS,<- List.append_assoc]
       exact st
     ·have hmS:m∈S:=by simpa using c
      refine⟨lk',_,_,_,_,_,rfl,u1 _ _ kz,u1 _ _ lz,ba,?_,by omega,sz.trans u1⟩
      rw [iH,if_pos hmS,List.append_nil]
      exact ltz
    ·rintro σ Hz ⟨lk',g5,g6,g7,g8,g9,rfl,kz,lz,bz,ltz,lkz,sz⟩
     rw [List.length_map,hrl] at ltz lkz
     refine⟨lk',_,_,_,_,_,_,rfl,kz,lz,?_,by omega,sz⟩
     rw [List.take_add_one,hS,List.flatMap_append]
     simpa using ltz
   ·rintro σ Hy ⟨lk,g4,g5,g6,g7,g8,g9,rfl,ky,ly,lti,lkl,sy⟩
    rw [List.length_map,List.take_length] at lti
    rw [List.length_map] at lkl
    refine⟨_,rfl,lt,lk,_,_,_,_,_,_,_,_,rfl,lt0,ly,KnI.next ksn ksm lti,sy,?_⟩
    rw [Nat.pow_succ]
    omega
  ·rintro σ Hx ⟨kn,kvs,g2,g3,g4,g5,g6,g7,g8,g9,rfl,kn0,kx,kni,sx,_⟩
   rw [List.length_map,hn] at kni
   obtain⟨ks,rfl,ksn,ksm⟩:=kni
   refine⟨_,rfl,_,rfl,a,_,rfl,.inr (SqT.of (sx _ _ ha)),n,by rw [List.length_map,hn],by omega,fun tp htp=>?_⟩
   have ntp:kn≠tp:=ax kx htp
   have u:=ao (o:=.tup ((List.range n).map fun i:Nat=>V.int i)) sx htp
   refine⟨kn,.int (dt n M),rfl,.inr ⟨bh ks (Dk M),kS (List.range n),tp,.inl (by rw [ag ntp];exact kx),rfl,by rw [ai,fe];rfl,?_⟩,k _ u⟩
   rw [df,if_pos ((ksm _).mpr (mh n)),pe]
end
section
variable {P:Program}{w:World}{K:PySem.W.Frag}{mg:Str->Option Value}{base:Heap}
noncomputable def j3:Sp:=fun vs H Q _=>∃(p:Addr),vs=[.ref p]/\Pot H p/\∀(z:Int) (H':Hp),z.natAbs<=2 ^ 100->Pot H' p->Kp [p] H H'->Q (.int z) H'
noncomputable abbrev N29:List Str:=["_law_pot_here","_law_way"]
theorem kF:aQ N29 ["_law_pot_here"] (aF (top 29)):=⟨rfl,rfl,rfl,by decide +kernel,rfl,by decide +kernel,by decide +kernel⟩
theorem mI {f:Addr}{fd:FuncData} (F:Fun K "_law_number" "_law_number" (top 29) f fd) (Ft:Fn P w K mg base 1 "_law_digit" ["_law_pot_here","_law_many"] cz):aH P w K mg base CX0 2 f fd ["_law_pot_here"] j3:=by
 refine F.ok kF (fun vs H Q E h=>?_) (fun cdv A outer s H vs Q E hr h=>?_)
 ·obtain⟨p,rfl,_⟩:=h
  rfl
 ·obtain⟨p,rfl,hp,k⟩:=h
  refine⟨_,ak (au (i:=1) kF.nd rfl (Or.inl rfl) (ar Ft hr (aa (pv 0) (aa af ab))))
   (ak (aV (aL cZ (pv 1) af (aN _)) (aq (aI af)) aS)
   (ak (aV (aL cZ (pv 1) af (aN _)) (aq (aI (av cT (ar Ft hr (aa (pv 0) (aa (av cT af (av jB af af)) ab))) (av cU af (av cT af (ar Ft hr (aa (pv 0) (aa af ab)))))))) aS)
   (aq (aI (av cU (ar Ft hr (aa (pv 0) (aa af ab))) af))))),?_⟩
  refine⟨_,rfl,p,4,rfl,hp,by decide,by decide,fun r H1 r0 r4 P1 K1=>?_⟩
  refine⟨_,rfl,rfl,_,rfl,?_⟩
  refine aX (fun c=>k 0 H1 (Nat.zero_le _) P1 K1) (fun c=>?_)
  refine⟨_,rfl,rfl,_,rfl,?_⟩
  refine aX (fun d=>?_) (fun d=>?_)
  ·refine⟨_,rfl,_,_,rfl,rfl,⟨by decide,by decide,by decide⟩,_,_,rfl,rfl,.inl ⟨by decide,by decide⟩,p,5 * 10 ^ 29,rfl,P1,by decide,by decide,fun a H2 a0 a1 P2 K2=>?_⟩
   refine⟨_,rfl,p,2,rfl,P2,by decide,by decide,fun b H3 b0 b1 P3 K3=>?_⟩
   refine⟨_,_,rfl,rfl,.inl ⟨by decide,by decide⟩,_,_,rfl,rfl,_,_,rfl,rfl,.inr ⟨by omega,by omega⟩,k _ H3 ?_ P3 (K1.trans (K2.trans K3))⟩
   rw [Int.natAbs_mul]
   have h1:a.natAbs<=5 * 10 ^ 29:=by omega
   have h2:((1:Int) - 2 * b).natAbs<=1:=by omega
   exact Nat.le_trans (Nat.mul_le_mul h1 h2) (by decide)
  ·refine⟨_,rfl,p,19,rfl,P1,by decide,by decide,fun a H2 a0 a1 P2 K2=>⟨_,_,rfl,rfl,k _ H2 ?_ P2 (K1.trans K2)⟩⟩
   have h2:(a - 9).natAbs<=20:=by omega
   exact Nat.le_trans h2 (by decide)
theorem Kp.nrow {H H':Hp}{p:Addr}{b:Bool}{r:Addr×List Int} (h:aD H b r) (hp:r.1≠p) (k:Kp [p] H H'):aD H' b r:=k _ _ h (by simpa using hp)
noncomputable def i8:Sp:=fun vs H Q _=>∃(p:Addr),vs=[.ref p]/\Pot H p/\∀(q:Addr) (rws:List (Addr×List Int)) (H':Hp),Pot H' p->Kp [p] H H'->H' q=some (.tup (aj rws))->(∀r∈rws,aD H' false r)->(∀r∈rws,r.2.length=rws.length)->rws.length<=8->(∀r∈rws,∀x∈r.2,x.natAbs<=2 ^ 128)->Q (.ref q) H'
noncomputable abbrev N30:List Str:=["_law_pot_here","_law_many","_law_rows_here"]
theorem gv:aQ N30 ["_law_pot_here"] (aF (top 30)):=⟨rfl,rfl,rfl,by decide +kernel,rfl,by decide +kernel,by decide +kernel⟩
theorem oJ {f:Addr}{fd:FuncData} (F:Fun K "_law_rows" "_law_rows" (top 30) f fd) (B:Bl mg) (Ft:Fn P w K mg base 1 "_law_digit" ["_law_pot_here","_law_many"] cz) (Fn':Fn P w K mg base 2 "_law_number" ["_law_pot_here"] j3):aH P w K mg base CX0 3 f fd ["_law_pot_here"] i8:=by
 refine F.ok gv (fun vs H Q E h=>?_) (fun cdv A outer s H vs Q E hr h=>?_)
 ·obtain⟨p,rfl,_⟩:=h
  rfl
 ·obtain⟨p,rfl,hp,k⟩:=h
  have hr1:aK 1 _:=hr.mono (by decide)
  refine⟨_,ak (au (i:=1) gv.nd rfl (Or.inr rfl) (ar Ft hr1 (aa (pv 0) (aa af ab))))
   (ak (dG (i:=2) (N:=["_law_turn","_law_pot_here","_law_many"]) (ix:=[none,some 0,some 1]) gv.nd rfl (Or.inl rfl) ⟨rfl,rfl,rfl,by decide⟩ rfl (bS rfl B.range (aa (pv 1) ab)) (fun _ _ _ _=>aO 0 (by decide) rfl rfl) (fun _ _ _ _=>a9)
     (fun _ _ _ _=>bb (N:=["_law_place","_law_pot_here"]) (ix:=[none,some 1]) ⟨rfl,rfl,rfl,by decide⟩ rfl (bS rfl B.range (aa (pv 2) ab)) (fun _ _ _ _=>aO 0 (by decide) rfl rfl) (fun _ _ _ _=>a9) (fun _ _ _ _=>ar Fn' hr (aa (pv 1) ab))))
   (ak (aV (PW.pt (qe (aL dW (pv 1) af (aN _)) (ot (aL cZ (ar Ft hr1 (aa (pv 0) (aa af ab))) af (aN _)))))
     (aq (cf (bb (N:=["_law_one","_law_other"]) (ix:=[none,none]) ⟨rfl,rfl,rfl,by decide⟩ rfl (fT rfl B.zip (aa (ay aG (pv 2) af (fun _ _=>rfl)) (aa (ay aG (pv 2) af (fun _ _=>rfl)) ab)))
      (fun _ _ _ _=>dI K rfl (n:=2) (aR (aO 0 (by decide) rfl rfl) (aR (aO 1 (by decide) rfl rfl) bH))) (fun _ _ _ _=>a9) (fun _ _ _ _=>av bK (pv 0) (pv 1))) (cS (pv 2) (ar Ft hr1 (aa (pv 0) (aa (pv 1) ab))) set_list))) aS)
   (aq (aI (bT cJ rfl B.tuple bB (aa (bb (N:=["_law_row"]) (ix:=[none]) ⟨rfl,rfl,rfl,by decide⟩ rfl (b9 (pv 2)) (fun _ _ _ _=>aO 0 (by decide) rfl rfl) (fun _ _ _ _=>a9) (fun _ _ _ _=>bT (fg K) rfl B.tuple bB (aa (pv 0) ab))) ab)))))),?_⟩
  refine⟨_,rfl,p,8,rfl,hp,by decide,by decide,fun n0 H1 n0a n0b P1 K1=>?_⟩
  obtain⟨n,rfl⟩:∃n:Nat,n0=n:=⟨n0.toNat,by omega⟩
  have n8:n<=7:=by omega
  refine⟨_,rfl,_,rfl,by omega,by omega,?_⟩
  rw [Int.toNat_natCast]
  refine cv (fits (by omega)) (fun i ys σ H2=>(∃rws:List (Addr×List Int),ys=aj rws/\rws.length=i/\∀r∈rws,aD H2 true r/\r.1≠p/\r.2.length=n/\∀x∈r.2,x.natAbs<=2 ^ 100)/\Pot H2 p/\Kp [p] H H2/\∃g,σ=[g,some (.ref p),some (.int n)])
   ⟨⟨[],rfl,rfl,by simp⟩,P1,K1,_,rfl⟩ (fun i ys σ H2 _ z=>by obtain⟨⟨rws,rfl,e,_⟩,_⟩:=z;simp [e]) ?_ ?_
  ·rintro i ys σ H2 hi ⟨⟨rws,rfl,rl,rr⟩,P2,K2,g,rfl⟩
   refine⟨_,rfl,_,rfl,by omega,by omega,?_⟩
   rw [Int.toNat_natCast]
   refine cv (fits (by omega)) (fun j zs σ H3=>(∃ns:List Int,zs=ns.map V.int/\ns.length=j/\∀x∈ns,x.natAbs<=2 ^ 100)/\Pot H3 p/\Kp [p] H2 H3/\∃g,σ=[g,some (.ref p)])
    ⟨⟨[],rfl,rfl,by simp⟩,P2,Kp.refl _ _,_,rfl⟩ (fun j zs σ H3 _ z=>by obtain⟨⟨ns,rfl,e,_⟩,_⟩:=z;simp [e]) ?_ ?_
   ·rintro j zs σ H3 hj ⟨⟨ns,rfl,nl,nb⟩,P3,K3,g',rfl⟩
    refine⟨_,rfl,p,rfl,P3,fun z H4 hz P4 K4=>⟨⟨ns++[z],by simp,by simp [nl],fun x hx=>?_⟩,P4,K3.trans K4,_,rfl⟩⟩
    rcases List.mem_append.mp hx with y | y
    ·exact nb x y
    ·rw [show x=z by simpa using y];exact hz
   ·rintro zs σ H3 ⟨⟨ns,rfl,nl,nb⟩,P3,K3,g',rfl⟩ l hl
    have u:=ao (o:=.lst (ns.map V.int)) (ae.refl H3) hl
    refine⟨⟨rws++[(l,ns)],by simp [aj],by simp [rl],fun r hr=>?_⟩,P3.new hl,(K2.trans K3).new hl,_,rfl⟩
    rcases List.mem_append.mp hr with y | y
    ·obtain⟨a1,a2,a3⟩:=rr r y
     exact⟨(Kp.nrow a1 a2 K3).same u,a2,a3⟩
    ·have e:r=(l,ns):=by simpa using y
     subst e
     exact⟨ai,P3.ne_new hl,nl,nb⟩
  rintro ys σ H2 ⟨⟨rws,rfl,rl,rr⟩,P2,K2,g,rfl⟩ q hq
  have nqp:=P2.ne_new hq
  have q0:H q=none:=K2.free1 P2 hq
  have P5:=P2.new (o:=.lst (aj rws)) hq
  have K5:=K2.new (o:=.lst (aj rws)) hq
  have u5:=ao (o:=.lst (aj rws)) (ae.refl H2) hq
  have q5:upd H2 q (.lst (aj rws)) q=some (.lst (aj rws)):=ai
  have rr5:∀r∈rws,aD (upd H2 q (.lst (aj rws))) true r/\r.1≠p/\r.1≠q/\r.2.length=n/\∀x∈r.2,x.natAbs<=2 ^ 100:=fun r hr=>by
   obtain⟨a1,a2,a3,a4⟩:=rr r hr
   exact⟨a1.same u5,a2,ax a1 hq,a3,a4⟩
  generalize upd H2 q (.lst (aj rws))=H5 at P5 K5 u5 q5 rr5 ⊢
  dsimp only
  refine gb (fun σ' Hx=>∃(rws':List (Addr×List Int)),σ'=[some (.ref p),some (.int n),some (.ref q)]/\Pot Hx p/\Kp [p] H Hx/\Hx q=some (.lst (aj rws'))/\rws'.length=n/\∀r∈rws',aD Hx true r/\r.2.length=n/\∀x∈r.2,x.natAbs<=2 ^ 101) (fun Nx key=>?_) ?_
  ·refine⟨_,rfl,_,_,rfl,rfl,_,rfl,?_⟩
   have old:Nx [some (.ref p),some (.int n),some (.ref q)] H5:=key _ _ ⟨rws,rfl,P5,K5,q5,rl,fun r hr=>by obtain⟨a1,a2,a3,a4,a5⟩:=rr5 r hr;exact⟨a1,a4,fun x hx=>Nat.le_trans (a5 x hx) (by decide)⟩⟩
   refine aX (fun c=>?_) (fun c=>bq old)
   have n2:2 < n:=by have:=of_decide_eq_true c;omega
   refine⟨_,rfl,p,3,rfl,P5,by decide,by decide,fun r3 H6 r30 r31 P6 K6=>⟨rfl,_,rfl,?_⟩⟩
   have q6:=K6.at nqp q5
   have rr6:∀r∈rws,aD H6 true r/\r.1≠p/\r.1≠q/\r.2.length=n/\∀x∈r.2,x.natAbs<=2 ^ 100:=fun r hr=>by obtain⟨a1,a2,a3⟩:=rr5 r hr;exact⟨Kp.nrow a1 a2 K6,a2,a3⟩
   refine aX (fun d=>?_) (fun d=>key _ _ ⟨rws,rfl,P6,K5.trans K6,q6,rl,fun r hr=>by obtain⟨a1,a2,a3,a4,a5⟩:=rr6 r hr;exact⟨a1,a4,fun x hx=>Nat.le_trans (a5 x hx) (by decide)⟩⟩)
   have g0:(aj rws)[0]?=some (.ref rws[0].1):=by rw [List.getElem?_map,List.getElem?_eq_getElem (by omega)];rfl
   have g1:(aj rws)[1]?=some (.ref rws[1].1):=by rw [List.getElem?_map,List.getElem?_eq_getElem (by omega)];rfl
   have m0:rws[0]∈rws:=List.getElem_mem _
   have m1:rws[1]∈rws:=List.getElem_mem _
   generalize rws[0]=ra at g0 m0
   generalize rws[1]=rb at g1 m1
   obtain⟨a1,a2,a3,a4,a5⟩:=rr6 ra m0
   obtain⟨b1,b2,b3,b4,b5⟩:=rr6 rb m1
   refine⟨_,rfl,aB (j:=0) (.inl (SqL.of q6)) rfl g0 ⟨_,rfl,aB (j:=1) (.inl (SqL.of q6)) rfl g1 ⟨ra.1,rb.1,_,_,rfl,SqL.of a1,SqL.of b1,?_⟩⟩⟩
   refine i5 (K:=K) (a:=ra.1) (b:=rb.1) (xs:=ra.2.map V.int) (ys:=rb.2.map V.int) (by simp [a4,b4]) (fits (by simp;omega)) (fun j zs σ Hx=>zs=(List.zipWith (fun a b=>a + b) (ra.2.take j) (rb.2.take j)).map V.int/\ae H6 Hx/\∃g1 g2,σ=[g1,g2])
    ⟨by simp,ae.refl _,_,_,rfl⟩ (fun j zs σ Hx hj z=>⟨by rw [z.1];simp;omega,SqL.of (z.2.1 _ _ a1),SqL.of (z.2.1 _ _ b1)⟩) ?_ ?_
   ·rintro j x y zs σ Hx T h1 h2 ⟨hz,sx,g1,g2,rfl⟩ hT
    obtain⟨xa,e1,rfl⟩:=nat h1
    obtain⟨ya,e2,rfl⟩:=nat h2
    have sT:=ao (o:=.tup [.int xa,.int ya]) (ae.refl Hx) hT
    refine⟨T,_,rfl,SqT.of ai,rfl,_,_,rfl,_,_,rfl,rfl,?_⟩
    refine⟨_,rfl,_,rfl,_,_,rfl,rfl,?_,sx.trans sT,_,_,rfl⟩
    rw [fE _ j ra.2 rb.2 xa ya e1 e2,List.map_append,hz];rfl
   ·rintro zs σ Hx ⟨hz,sx,g1',g2',rfl⟩ l hl
    rw [List.length_map,List.take_length,show ra.2.length=rb.2.length by omega,List.take_length] at hz
    subst hz
    have nlp:l≠p:=(P6.keep fun o e=>sx _ _ e).ne_new hl
    have u7:=ao (o:=.lst ((List.zipWith (fun a b=>a + b) ra.2 rb.2).map V.int)) sx hl
    have l7:upd Hx l (.lst ((List.zipWith (fun a b=>a + b) ra.2 rb.2).map V.int)) l=some (.lst ((List.zipWith (fun a b=>a + b) ra.2 rb.2).map V.int)):=ai
    have nlq:l≠q:=(ax (sx _ _ q6) hl).symm
    generalize upd Hx l (.lst ((List.zipWith (fun a b=>a + b) ra.2 rb.2).map V.int))=H7 at u7 l7 ⊢
    have P7:Pot H7 p:=P6.keep fun o e=>u7 _ _ e
    refine⟨_,rfl,_,rfl,_,rfl,p,n,rfl,P7,by omega,by omega,fun d0 H8 d00 d01 P8 K8=>?_⟩
    obtain⟨d8,rfl⟩:∃d8:Nat,d0=d8:=⟨d0.toNat,by omega⟩
    have q8:=K8.at nqp (u7 _ _ q6)
    have l8:=K8.at nlp l7
    refine⟨q,_,_,d8,rfl,rfl,q8,cO (by rw [List.length_map,rl];omega),key _ _ ⟨rws.set d8 (l,List.zipWith (fun a b=>a + b) ra.2 rb.2),rfl,P8.upd nqp,?_,?_,by simp [rl],fun r hr=>?_⟩⟩
    ·exact (K5.trans (K6.trans ((Kp.refl [p] H6).of_same u7 |>.trans K8))).upd0 q0
    ·rw [ai];unfold aj;rw [List.map_set]
    ·rcases List.mem_or_eq_of_mem_set hr with z | z
     ·obtain⟨c1,c2,c3,c4,c5⟩:=rr6 r z
      refine⟨?_,c4,fun x hx=>Nat.le_trans (c5 x hx) (by decide)⟩
      unfold aD
      rw [ag c3]
      exact Kp.nrow (c1.same u7) c2 K8
     ·subst z
      refine⟨?_,by simp [a4,b4],fun x hx=>?_⟩
      ·unfold aD
       rw [ag nlq];exact l8
      ·rw [List.mem_iff_getElem] at hx
       obtain⟨i,hi,rfl⟩:=hx
       rw [List.getElem_zipWith]
       simp at hi
       have h1:=a5 _ (List.getElem_mem (l:=ra.2) (n:=i) (by omega))
       have h2:=b5 _ (List.getElem_mem (l:=rb.2) (n:=i) (by omega))
       refine Nat.le_trans (Int.natAbs_add_le _ _) (Nat.le_trans (Nat.add_le_add h1 h2) (by decide))
  ·rintro σ' Hx ⟨rws',rfl,Px,Kx,qx,rl',rr'⟩
   refine⟨_,rfl,q,rfl,⟨_,SqL.of qx⟩,?_⟩
   refine eg (K:=K) (xs:=aj rws') (fits (by simp;omega)) (fun i zs σ Hy=>(∃rt:List (Addr×List Int),zs=aj rt/\rt.map (·.2)=(rws'.map (·.2)).take i/\∀r∈rt,aD Hy false r)/\ae Hx Hy/\∃g,σ=[g])
    ⟨⟨[],rfl,by simp,by simp⟩,ae.refl _,_,rfl⟩ (fun i zs σ Hy hi z=>by
     obtain⟨⟨rt,rfl,e,_⟩,sy,_⟩:=z
     have:=congrArg List.length e
     simp at this
     exact⟨by simp;omega,SqL.of (sy _ _ qx)⟩) ?_ ?_
   ·rintro i x zs σ Hy hx ⟨⟨rt,rfl,e,hn⟩,sy,g,rfl⟩
    rw [List.getElem?_map] at hx
    obtain⟨r,hr',rfl⟩:∃r,rws'[i]?=some r/\x=.ref r.1:=by
     cases e:rws'[i]? with
     | none=>rw [e] at hx;cases hx
     | some z=>rw [e] at hx;cases hx;exact⟨z,rfl,rfl⟩
    have N1:=(rr' r (List.mem_of_getElem? hr')).1.same sy
    refine⟨_,rfl,r.1,_,rfl,.inl ⟨SqL.of N1,fun n hn'=>?_⟩⟩
    have u:=ao (o:=.tup (r.2.map V.int)) (ae.refl Hy) hn'
    refine⟨⟨rt++[(n,r.2)],by simp [aj],by rw [List.map_append,e,List.take_add_one,List.getElem?_map,hr'];rfl,fun z hz=>?_⟩,sy.trans u,_,rfl⟩
    rcases List.mem_append.mp hz with y | y
    ·exact (hn z y).same u
    ·have e:z=(n,r.2):=by simpa using y
     rw [e];exact ai
   rintro zs σ Hy ⟨⟨rt,rfl,e,hn⟩,sy,g,rfl⟩ l hl'
   rw [List.length_map,take_all _ (by simp)] at e
   have u:=ao (o:=.lst (aj rt)) (ae.refl Hy) hl'
   have l8:upd Hy l (.lst (aj rt)) l=some (.lst (aj rt)):=ai
   generalize upd Hy l (.lst (aj rt))=Hz at u l8 ⊢
   refine⟨l,_,rfl,.inl ⟨SqL.of l8,fun m hm=>?_⟩⟩
   have u2:=ao (o:=.tup (aj rt)) (ae.refl Hz) hm
   have sall:=sy.trans (u.trans u2)
   have el:rt.length=rws'.length:=by have:=congrArg List.length e;simpa using this
   have back:∀r∈rt,∃r'∈rws',r'.2=r.2:=fun r hr=>by
    have:r.2∈rws'.map (·.2):=by rw [<- e];exact List.mem_map.mpr ⟨r,hr,rfl⟩
    obtain⟨r',h1,h2⟩:=List.mem_map.mp this
    exact⟨r',h1,h2⟩
   refine k m rt _ (Px.keep fun o e=>sall _ _ e) (Kx.of_same sall) ai (fun r hr=>(hn r hr).same (u.trans u2)) (fun r hr=>?_) (by omega) (fun r hr x hx=>?_)
   ·obtain⟨r',h1,h2⟩:=back r hr
    rw [<- h2,(rr' r' h1).2.1,el,rl']
   ·obtain⟨r',h1,h2⟩:=back r hr
    exact Nat.le_trans ((rr' r' h1).2.2 x (by rw [h2];exact hx)) (Nat.pow_le_pow_right (by decide) (by decide))
end
end K81
namespace K81
open PySem L2
theorem join_le (B:Nat):∀ts:List Str,(∀t∈ts,t.length<=B)->(Str.join ", " ts).length<=ts.length * (B + 2)
 | [],_=>by show (0:Nat)<=_;exact Nat.zero_le _
 | [x],h=>by
  have:=h x List.mem_cons_self
  show x.length<=1 * (B + 2)
  omega
 | x::y::r,h=>by
  have ih:=join_le B (y::r) fun t ht=>h t (List.mem_cons_of_mem _ ht)
  have hx:=h x List.mem_cons_self
  show (x++(", ":Str)++Str.join ", " (y::r)).length<=_
  have e2:((", ":Str)).length=2:=by decide
  rw [Str.length_append,Str.length_append,e2]
  simp only [List.length_cons] at ih ⊢
  rw [Nat.add_mul (r.length + 1) 1 (B + 2)]
  omega
theorem k0 {B:Nat}{ts:List Str} (h:∀t∈ts,t.length<=B):(tupleText ts).length<=3 + ts.length * (B + 2):=by
 have:=join_le B ts h
 unfold tupleText
 rw [Str.length_append,Str.length_append]
 have e1:(("(":Str)).length=1:=by decide
 rw [e1]
 by_cases c:(ts.length == 1)=true
 ·rw [if_pos c]
  have e3:((",)":String):Str).length=2:=by decide
  rw [e3];omega
 ·rw [if_neg c]
  have e3:((")":String):Str).length=1:=by decide
  rw [e3];omega
theorem gB:∀{ds:List PyData}{t:Str},t∈PyData.shownAll ds->∃d∈ds,t=d.shown
 | [],t,h=>by simp [PyData.shownAll] at h
 | d::ds,t,h=>by
  rw [PyData.shownAll] at h
  rcases List.mem_cons.mp h with e | h
  ·exact⟨d,List.mem_cons_self,e⟩
  ·obtain⟨d',h1,h2⟩:=gB h
   exact⟨d',List.mem_cons_of_mem _ h1,h2⟩
theorem gz:∀ds:List PyData,(PyData.shownAll ds).length=ds.length
 | []=>rfl
 | d::ds=>by rw [PyData.shownAll,List.length_cons,List.length_cons,gz ds]
theorem shown_tuple {B:Nat}{ds:List PyData} (h:∀d∈ds,d.shown.length<=B):(PyData.tuple ds).shown.length<=3 + ds.length * (B + 2):=by
 rw [PyData.shown,<- gz ds]
 refine k0 fun t ht=>?_
 obtain⟨d,hd,rfl⟩:=gB ht
 exact h d hd
end K81
namespace K81
open PySem L2 DT
noncomputable def bY (l:List Int):PyData:=.tuple (l.map PyData.int)
noncomputable def cF (L:List (List Int)):PyData:=.tuple (L.map bY)
theorem iJ {H:Hp}:∀l:List Int,DVs H (l.map V.int) (l.map PyData.int)
 | []=>.nil
 | x::l=>.cons (.int x) (iJ l)
theorem iC {H:Hp}:∀rws:List (Addr×List Int),(∀r∈rws,aD H false r)->DVs H (aj rws) ((rws.map (·.2)).map bY)
 | [],_=>.nil
 | r::rws,h=>.cons (.tup (h r List.mem_cons_self) (iJ r.2)) (iC rws fun x hx=>h x (List.mem_cons_of_mem _ hx))
theorem eV {H:Hp}{q:Addr}{rws:List (Addr×List Int)} (h:H q=some (.tup (aj rws))) (hr:∀r∈rws,aD H false r):DV H (.ref q) (cF (rws.map (·.2))):=.tup h (iC rws hr)
noncomputable def Sm (x:Int):Prop:=x.natAbs<=60
theorem gW {x:Int} (h:Sm x):PyData.showable (.int x)=true/\(PyData.int x).shown.length<=10:=by
 have key:∀n:Fin 121,PyData.showable (.int ((n.val:Int) - 60))=true/\(PyData.int ((n.val:Int) - 60)).shown.length<=10:=by decide +kernel
 have h':x.natAbs<=60:=h
 have q:=key ⟨(x + 60).toNat,by omega⟩
 have e:(((x + 60).toNat:Int)) - 60=x:=by omega
 simp only [e] at q
 exact q
theorem gP:∀l:List Int,(∀x∈l,Sm x)->PyData.showableAll (l.map PyData.int)=true/\PyData.hasDictAll (l.map PyData.int)=false/\PyData.depthAll (l.map PyData.int)=0
 | [],_=>⟨rfl,rfl,rfl⟩
 | x::l,h=>by
  obtain⟨a,b,c⟩:=gP l fun y hy=>h y (List.mem_cons_of_mem _ hy)
  have q:=(gW (h x List.mem_cons_self)).1
  refine⟨?_,?_,?_⟩
  ·rw [List.map_cons,PyData.showableAll,q,a];rfl
  ·rw [List.map_cons,PyData.hasDictAll,b];rfl
  ·rw [List.map_cons,PyData.depthAll,c];rfl
theorem gT:∀L:List (List Int),(∀l∈L,∀x∈l,Sm x)->PyData.showableAll (L.map bY)=true/\PyData.hasDictAll (L.map bY)=false/\PyData.depthAll (L.map bY)<=1
 | [],_=>⟨rfl,rfl,by decide⟩
 | l::L,h=>by
  obtain⟨a,b,c⟩:=gT L fun y hy=>h y (List.mem_cons_of_mem _ hy)
  obtain⟨a',b',c'⟩:=gP l (h l List.mem_cons_self)
  refine⟨?_,?_,?_⟩
  ·rw [List.map_cons,PyData.showableAll,a,bY,PyData.showable,a'];rfl
  ·rw [List.map_cons,PyData.hasDictAll,b,bY,PyData.hasDict,b'];rfl
  ·rw [List.map_cons,PyData.depthAll,bY,PyData.depth,c'];omega
theorem mV {L:List (List Int)}{n:Nat} (h:∀l∈L,(∀x∈l,Sm x)/\l.length=n) (hL:L.length=n) (h8:n<=8):(cF L).showable=true/\(cF L).hasDict=false/\(cF L).depth<=40/\(cF L).shown.length<=sizeLine:=by
 obtain⟨a,b,c⟩:=gT L fun l hl=>(h l hl).1
 refine⟨by rw [cF,PyData.showable,a],by rw [cF,PyData.hasDict,b],by rw [cF,PyData.depth];omega,?_⟩
 have h1:=shown_tuple (B:=200) (ds:=L.map bY) fun d hd=>by
  obtain⟨l,hl,rfl⟩:=List.mem_map.mp hd
  have h2:=shown_tuple (B:=10) (ds:=l.map PyData.int) fun d hd=>by
   obtain⟨x,hx,rfl⟩:=List.mem_map.mp hd
   exact (gW ((h l hl).1 x hx)).2
  rw [List.length_map,(h l hl).2] at h2
  show (PyData.tuple (l.map PyData.int)).shown.length<=200
  omega
 rw [List.length_map,hL] at h1
 show (PyData.tuple (L.map bY)).shown.length<=sizeLine
 rw [sizeLine_eq]
 omega
theorem jA {L L':List (List Int)}{n:Nat} (h1:L.length=n) (h2:L'.length=n) (r1:∀l∈L,l.length=n) (r2:∀l∈L',l.length=n) (h:∀i j,i < n->j < n->at2 L i j=at2 L' i j):L=L':=by
 refine List.ext_getElem (by omega) fun i hi hi'=>?_
 have e1:=r1 L[i] (List.getElem_mem hi)
 have e2:=r2 L'[i] (List.getElem_mem hi')
 refine List.ext_getElem (by omega) fun j hj hj'=>?_
 have:=h i j (by omega) (by omega)
 unfold at2 at this
 rw [List.getElem?_eq_getElem hi,List.getElem?_eq_getElem hi',Option.getD_some,Option.getD_some,List.getElem?_eq_getElem hj,List.getElem?_eq_getElem hj'] at this
 exact this
theorem i9 {p:Addr}{H H1 H2:Hp} (s:ae H H1) (hp:H p=none) (k:Kp [p] H1 H2):ae H H2:=fun b o e=>k b o (s b o e) (by simp;exact ax e hp)
theorem one_le (t:Ti) (r:Nat):(one t r).natAbs<=1:=by
 unfold one
 split <;> split <;> decide
theorem oK (l:List Int) (h:∀x∈l,x.natAbs<=1):l.sum.natAbs<=l.length:=by
 induction l with
 | nil=>exact Nat.le_refl _
 | cons x l ih =>
  have h1:=ih fun y hy=>h y (List.mem_cons_of_mem _ hy)
  have h2:=h x List.mem_cons_self
  rw [List.sum_cons,List.length_cons]
  have:=Int.natAbs_add_le x l.sum
  omega
theorem oR (E:List Ti) (i j:Nat):(tab E i j).natAbs<=E.length:=by
 unfold tab
 refine Nat.le_trans (oK _ fun x hx=>?_) (by rw [List.length_map];exact List.length_filter_le _ _)
 obtain⟨t,_,rfl⟩:=List.mem_map.mp hx
 exact one_le t i
theorem oa (O:List Str) (root:Str) (rs:List Row):(tis O root rs).length<=rs.length:=by
 unfold tis
 rw [List.length_map]
 exact List.length_filter_le _ _
section
variable {P:Program}{w:World}{K:PySem.W.Frag}{mg:Str->Option Value}{base:Heap}
noncomputable def i3:Sp:=fun vs H Q _=>∃(a:Addr) (rws:List (Addr×List Int)),vs=[.ref a]/\H a=some (.tup (aj rws))/\(∀r∈rws,aD H false r)/\(∀r∈rws,r.2.length=rws.length)/\rws.length<=8/\(∀r∈rws,∀x∈r.2,x.natAbs<=2 ^ 128)/\∀H',ae H H'->Q (.bl true) H'
noncomputable abbrev N31:List Str:=["_law_rows_here","_law_found"]
theorem km:aQ N31 ["_law_rows_here"] (aF (top 31)):=⟨rfl,rfl,rfl,by decide +kernel,rfl,by decide +kernel,by decide +kernel⟩
theorem m9 {f:Addr}{fd:FuncData} (F:Fun K "_law_right" "_law_right" (top 31) f fd) (B:Bl mg) (Fd:Fn P w K mg base 2 "determinant" ["rows"] fY) (Fu:Fn P w K mg base 1 "_law_due" ["_law_rows_here"] jD):aH P w K mg base CX0 3 f fd ["_law_rows_here"] i3:=by
 refine F.ok km (fun vs H Q E h=>?_) (fun cdv A outer s H vs Q E hr h=>?_)
 ·obtain⟨a,rws,rfl,_⟩:=h
  rfl
 ·obtain⟨a,rws,rfl,ha,hrw,hlen,h8,hB,k⟩:=h
  have hr1:aK 1 _:=hr.mono (by decide)
  refine⟨_,ak (au (i:=1) km.nd rfl (Or.inl rfl) (ar Fd hr (aa (pv 0) ab)))
   (ak (aV (PW.pt (bW (bI (bJ (aw (cu (T:="int")) rfl B.isinstance cq (aa (pv 1) (aa (cw (v:=.ty "int") rfl B.int qy rfl) ab)))))
      (bW (bJ (aw (cu (T:="bool")) rfl B.isinstance cq (aa (pv 1) (aa (cw (v:=.ty "bool") rfl B.bool pY rfl) ab))))
      (cA (aL bv (pv 1) (ar Fu hr1 (aa (pv 0) ab)) (aN _)))))) c9 aS)
   (aq (aI (eE cZ (ar Fd hr (aa (pv 0) ab)) (pv 1) (aN _))))),?_⟩
  refine⟨_,rfl,a,rws,rfl,ha,hrw,hlen,h8,hB,fun H1 s1=>?_⟩
  refine⟨_,rfl,_,_,true,rfl,.int _,rfl,true,rfl,bq ⟨_,rfl,_,_,false,rfl,.int _,rfl,false,rfl,bq ⟨_,rfl,_,rfl,a,rws,rfl,s1 _ _ ha,fun r hr=>(hrw r hr).same s1,hlen,h8,hB,fun H2 s2=>⟨rfl,_,rfl,?_⟩⟩⟩⟩
  have s12:=s1.trans s2
  rw [decide_eq_true rfl]
  refine bq ⟨_,rfl,a,rws,rfl,s12 _ _ ha,fun r hr=>(hrw r hr).same s12,hlen,h8,hB,fun H3 s3=>⟨_,rfl,rfl,?_⟩⟩
  rw [decide_eq_true rfl]
  exact k H3 (s12.trans s3)
noncomputable def eY (K:PySem.W.Frag):Sp:=fun vs H Q _=>∃(a:Addr) (ns:List Int),vs=[.ref a]/\SqL K H a (ns.map V.int)/\ns.length<=63/\∀H',Q (.bl true) H'
noncomputable abbrev N32:List Str:=["_law_script","_law_k","_law_pot_here","_law_web_here","_law_root","_law_due_here","_law_rows_here"]
theorem c7:aQ N32 ["_law_script"] (aF (top 32)):=⟨rfl,rfl,rfl,by decide +kernel,rfl,by decide +kernel,by decide +kernel⟩
theorem qd {f:Addr}{fd:FuncData} (F:Fun K "law" "law" (top 32) f fd) (B:Bl mg) (Fd:Fn P w K mg base 2 "determinant" ["rows"] fY) (Fp:Fn P w K mg base 1 "_law_pot" ["_law_script","_law_k"] (j6 K)) (Fg:Fn P w K mg base 4 "_law_web" ["_law_pot_here","_law_most_places","_law_most_trees","_law_most_more"] jE)
  (Fl:Fn P w K mg base 1 "_law_table" ["_law_web_here","_law_root"] jq) (Ft:Fn P w K mg base 5 "table" ["web","root"] i4) (Fw:Fn P w K mg base 3 "_law_rows" ["_law_pot_here"] i8) (Fr:Fn P w K mg base 3 "_law_right" ["_law_rows_here"] i3):aH P w K mg base CX0 6 f fd ["_law_script"] (eY K):=by
 refine F.ok c7 (fun vs H Q E h=>?_) (fun cdv A outer s H vs Q E hr h=>?_)
 ·obtain⟨a,ns,rfl,_⟩:=h
  rfl
 ·obtain⟨a,sc,rfl,hS,hlen,k⟩:=h
  have hr1:aK 1 _:=hr.mono (by decide)
  have hr2:aK 2 _:=hr.mono (by decide)
  have hr3:aK 3 _:=hr.mono (by decide)
  have hr4:aK 4 _:=hr.mono (by decide)
  refine⟨_,ak (aV (aL bv (ar Fd hr2 (aa (ce ab) ab)) af (aN _)) c9 aS)
   (ak (bU PassesOwn.never rfl (bS rfl B.range (aa (aw (gU rfl) rfl B.max j9 (aa af (aa (aw (gZ rfl) rfl B.min kf (aa af (aa (aw bc rfl B.len PySem.boot_len (aa (pv 0) ab)) ab))) ab))) ab)) (aZ (i:=1) c7.nd rfl (Or.inl rfl))
    (ak (au (i:=2) c7.nd rfl (Or.inl rfl) (ar Fp hr1 (aa (pv 0) (aa (pv 1) ab))))
    (ak (cf (ar Fg hr4 (aa (pv 2) (aa af (aa af (aa af ab))))) (cB rfl (n:=2) (aR (aZ (i:=3) c7.nd rfl (Or.inl rfl)) (aR (aZ (i:=4) c7.nd rfl (Or.inl rfl)) bH))))
    (ak (au (i:=5) c7.nd rfl (Or.inl rfl) (ar Fl hr1 (aa (pv 3) (aa (pv 4) ab))))
    (ak (aV (PW.pt (bW (aL bv (aw (dZ hr1) rfl B.repr eM (aa (ar Ft hr (aa (pv 3) (aa (pv 4) ab))) ab)) (aw (dZ hr1) rfl B.repr eM (aa (pv 5) ab)) (aN _))
     (cA (aL bv (aw (dZ hr1) rfl B.repr eM (aa (ar Ft hr (aa (pv 3) (aa (pv 4) ab))) ab)) (aw (dZ hr1) rfl B.repr eM (aa (pv 5) ab)) (aN _))))) c9 aS)
    (ak (au (i:=6) c7.nd rfl (Or.inl rfl) (ar Fw hr3 (aa (pv 2) ab)))
    (aq (aV (PW.pt (bW (bI (bJ (ar Fr hr3 (aa (pv 5) ab)))) (cA (bI (bJ (ar Fr hr3 (aa (pv 6) ab))))))) c9 aS))))))))
   (aq (aI du))),?_⟩
  refine⟨Nat.zero_le _,fun t0 ht0=>?_⟩
  refine⟨t0,[],rfl,ai,by simp,by simp,by simp,by simp,fun H0 s0=>⟨rfl,_,rfl,?_⟩⟩
  have s0:=(ao (o:=.tup []) (ae.refl H) ht0).trans s0
  have ed:dt ([]:List (Addr×List Int)).length (at2 (([]:List (Addr×List Int)).map (·.2)))=1:=rfl
  rw [ed,decide_eq_true rfl]
  refine bq ?_
  refine⟨_,rfl,a,_,rfl,.inl (s0.seq hS),_,_,rfl,_,_,rfl,_,rfl,?_,?_,?_⟩
  ·repeat' split
   all_goals omega
  ·repeat' split
   all_goals omega
  have hn9:∀x:Int,x=(if (if ((sc.map V.int).length:Int) < (4:Int) then ((sc.map V.int).length:Int) else 4) > 1 then (if ((sc.map V.int).length:Int) < (4:Int) then ((sc.map V.int).length:Int) else 4) else 1)->x.toNat<=8:=fun x hx=>by
   subst hx
   repeat' split
   all_goals omega
  refine fm (fun i σ H1=>(∃g1 g2 g3 g4 g5 g6,σ=[some (.ref a),g1,g2,g3,g4,g5,g6])/\ae H H1) ⟨⟨_,_,_,_,_,_,rfl⟩,s0⟩ ?_ (fun σ H1 _=>k H1)
  rintro i σ H1 hi ⟨⟨g1,g2,g3,g4,g5,g6,rfl⟩,s1⟩
  have hi8:i < 8:=Nat.lt_of_lt_of_le hi (hn9 _ rfl)
  refine⟨_,rfl,_,rfl,a,sc,_,rfl,s1.seq hS,by omega,by omega,fun p H2 s2 p0 P2=>?_⟩
  refine⟨_,rfl,p,rfl,P2,fun w0 u pa ra root ps rs H3 P3 w3 W3 G p8 r26 hroot K3=>?_⟩
  refine⟨w0,_,rfl,SqT.of w3,rfl,_,_,rfl,_,_,rfl,rfl,?_⟩
  refine⟨_,rfl,_,rfl,u,pa,ra,root,ps,rs,rfl,W3,G,p8,fun q rws H4 s4 q4 R4 l4 ll4 at4=>?_⟩
  have o8:(others ps root).length<=8:=Nat.le_trans (List.length_filter_le _ _) p8
  generalize hm:(others ps root).length=m at o8 l4 ll4 at4
  have r60:rs.length<=60:=by have:=G.rz;simpa using this
  have tb60:∀i j,(tab (tis (others ps root) root (rs.map (·.2))) i j).natAbs<=60:=fun i j=>Nat.le_trans (oR _ _ _) (Nat.le_trans (oa _ _ _) (by rw [List.length_map];exact r60))
  have sm:∀rws:List (Addr×List Int),rws.length=m->(∀r∈rws,r.2.length=m)->(∀i j,i < m->j < m->at2 (rws.map (·.2)) i j=tab (tis (others ps root) root (rs.map (·.2))) i j)->∀l∈rws.map (·.2),(∀x∈l,Sm x)/\l.length=m:=fun rws h1 h2 h3 l hl=>by
   have hlen:l.length=m:=by obtain⟨r,hr,rfl⟩:=List.mem_map.mp hl;exact h2 r hr
   refine⟨fun x hx=>?_,hlen⟩
   obtain⟨i,j,hi,hj,rfl⟩:=jm (L:=rws.map (·.2)) (n:=m) (fun row hrow=>by obtain⟨r,hr,rfl⟩:=List.mem_map.mp hrow;exact h2 r hr) hl hx
   rw [List.length_map,h1] at hi
   show (at2 _ i j).natAbs<=60
   rw [h3 i j hi hj];exact tb60 i j
  have sh:=mV (sm rws l4 ll4 at4) (by rw [List.length_map];exact l4) o8
  refine⟨_,rfl,_,rfl,u,pa,ra,root,ps,rs,rfl,W3.same s4,G,p8,hroot,fun q5 rw5 H5 s5 qq5 R5 l5 ll5 at5=>?_⟩
  rw [hm] at l5 ll5 at5
  have e5:rw5.map (·.2)=rws.map (·.2):=jA (n:=m) (by rw [List.length_map];exact l5) (by rw [List.length_map];exact l4) (fun l hl=>by obtain⟨r,hr,rfl⟩:=List.mem_map.mp hl;exact ll5 r hr) (fun l hl=>by obtain⟨r,hr,rfl⟩:=List.mem_map.mp hl;exact ll4 r hr) fun i j hi hj=>by rw [at5 i j hi hj,at4 i j hi hj]
  have dv5:=eV qq5 R5
  rw [e5] at dv5
  refine⟨q5,_,rfl,dv5,sh.1,sh.2.1,sh.2.2.1,sh.2.2.2,?_⟩
  refine⟨_,rfl,q,_,rfl,eV (s5 _ _ q4) (fun r hr=>(R4 r hr).same s5),sh.1,sh.2.1,sh.2.2.1,sh.2.2.2,rfl,_,rfl,?_⟩
  rw [decide_eq_true rfl]
  refine bq ?_
  have s45:=s4.trans s5
  refine⟨_,rfl,_,rfl,u,pa,ra,root,ps,rs,rfl,W3.same s45,G,p8,hroot,fun q6 rw6 H6 s6 qq6 R6 l6 ll6 at6=>?_⟩
  rw [hm] at l6 ll6 at6
  have e6:rw6.map (·.2)=rws.map (·.2):=jA (n:=m) (by rw [List.length_map];exact l6) (by rw [List.length_map];exact l4) (fun l hl=>by obtain⟨r,hr,rfl⟩:=List.mem_map.mp hl;exact ll6 r hr) (fun l hl=>by obtain⟨r,hr,rfl⟩:=List.mem_map.mp hl;exact ll4 r hr) fun i j hi hj=>by rw [at6 i j hi hj,at4 i j hi hj]
  have dv6:=eV qq6 R6
  rw [e6] at dv6
  refine⟨q6,_,rfl,dv6,sh.1,sh.2.1,sh.2.2.1,sh.2.2.2,?_⟩
  have s46:=s5.trans s6
  refine⟨_,rfl,q,_,rfl,eV (s46 _ _ q4) (fun r hr=>(R4 r hr).same s46),sh.1,sh.2.1,sh.2.2.1,sh.2.2.2,rfl,_,rfl,?_⟩
  rw [decide_eq_true rfl]
  refine bq ?_
  have P6:Pot H6 p:=P3.keep fun o e=>(s4.trans s46) _ _ e
  refine⟨_,rfl,p,rfl,P6,fun qr rwr H7 P7 K7 qq7 R7 l7 ll7 b7=>?_⟩
  have nqp:q≠p:=fun z=>by
   obtain⟨x,y,hxy,_⟩:=P6
   have:=s46 _ _ q4
   rw [z,hxy] at this
   cases this
  have q7:=K7.at nqp (s46 _ _ q4)
  have R47:∀r∈rws,aD H7 false r:=fun r hr=>by
   have h1:=(R4 r hr).same s46
   refine Kp.nrow h1 (fun z=>?_) K7
   obtain⟨x,y,hxy,_⟩:=P6
   unfold aD at h1
   rw [z,hxy] at h1
   cases h1
  refine⟨_,rfl,q,rws,rfl,q7,R47,fun r hr=>by rw [ll4 r hr,l4],by omega,fun r hr x hx=>?_,fun H8 s8=>⟨true,rfl,bq ?_⟩⟩
  ·have h1:x.natAbs<=60:=(sm rws l4 ll4 at4 r.2 (List.mem_map.mpr ⟨r,hr,rfl⟩)).1 x hx
   exact Nat.le_trans h1 (by decide)
  refine⟨_,rfl,qr,rwr,rfl,s8 _ _ qq7,fun r hr=>(R7 r hr).same s8,l7,ll7,b7,fun H9 s9=>⟨true,rfl,bq ⟨⟨_,_,_,_,_,_,rfl⟩,?_⟩⟩⟩
  have k1:ae H1 H3:=i9 s2 p0 K3
  have k2:Kp [p] H2 H7:=K3.trans ((Kp.refl [p] H3).of_same (s4.trans s46) |>.trans K7)
  exact s1.trans ((i9 s2 p0 k2).trans (s8.trans s9))
end
end K81
namespace K81
open PySem L2
noncomputable def aU (K:PySem.W.Frag) (x:Str) (st:Stmt):Prop:=∃(f:Addr) (oc:Value) (od:Option Addr) (kV doc pm:Value) (an:Option Addr) (cd ct:Value) (sl:Array (Option Value)),
 PySem.W.nsIn K mainGlobals x=some (some (.ref f))/\K.lookup f=some ⟨oc,od,.func (PySem.W.fnOf x x (cx st) (b8 st) (aF st) .none kV doc pm an cd ct),sl⟩/\PySem.W.codeIn K cd x=true/\PySem.W.keepIn K (.ref f)=true
theorem rZ {K:PySem.W.Frag}{x:Str}{st:Stmt}{f:Addr}{oc:Value}{od:Option Addr}{kV doc pm:Value}{an:Option Addr}{cd ct:Value}{sl:Array (Option Value)} (a:PySem.W.nsIn K mainGlobals x=some (some (.ref f)))
  (l:K.lookup f=some ⟨oc,od,.func (PySem.W.fnOf x x (cx st) (b8 st) (aF st) .none kV doc pm an cd ct),sl⟩) (c:PySem.W.codeIn K cd x=true) (k:PySem.W.keepIn K (.ref f)=true):aU K x st :=
 ⟨f,oc,od,kV,doc,pm,an,cd,ct,sl,a,l,c,k⟩
theorem aY {P:Program}{w:World}{K:PySem.W.Frag}{mg:Str->Option Value}{base h:Heap}{x:Str}{st:Stmt}{k:Nat}{ps:List Str}{sp:Sp} (D:aU K x st) (X:K.In h) (G:h.Ns mainGlobals mg)
  (hb:∀(kV doc pm:Value) (an:Option Addr) (cdv ct:Value) (us:List Value),us.length=ps.length->bindArgs (PySem.W.fnOf x x (cx st) (b8 st) (aF st) .none kV doc pm an cdv ct) ⟨us,[]⟩=pure (ps.zip us))
  (ok:∀(f:Addr) (fd:FuncData),Fun K x x st f fd->aH P w K mg base CX0 k f fd ps sp):Fn P w K mg base k x ps sp:=by
 obtain⟨f,oc,od,kV,doc,pm,an,cd,ct,sl,a,l,c,kk⟩:=D
 have F:=jF (st:=st) l c kk
 exact⟨f,_,PySem.W.mg_of X G a,kk,F.binds hb,ok f _ F⟩
theorem r8 {l:PySem.W.OpenLaw}{w:World}{K:PySem.W.Frag}{h:Heap}{mg:Str->Option Value}{fa:Addr} (X:K.In h) (G:h.Ns mainGlobals mg) (hfa:mg "law"=some (.ref fa)) (B:Bl mg)
  (d6:aU K "is_name" (top 6))
  (d7:aU K "is_rising" (top 7))
  (d8:aU K "is_sorted_names" (top 8))
  (d9:aU K "is_among" (top 9))
  (d10:aU K "is_tie_row" (top 10))
  (d11:aU K "is_web" (top 11))
  (d12:aU K "need_web" (top 12))
  (d13:aU K "need_place" (top 13))
  (d15:aU K "table_of" (top 15))
  (d16:aU K "table" (top 16))
  (d17:aU K "cleared" (top 17))
  (d18:aU K "determinant" (top 18))
  (d20:aU K "_law_pot" (top 20))
  (d21:aU K "_law_digit" (top 21))
  (d22:aU K "_law_name" (top 22))
  (d23:aU K "_law_grown" (top 23))
  (d24:aU K "_law_free" (top 24))
  (d25:aU K "_law_named" (top 25))
  (d26:aU K "_law_web" (top 26))
  (d27:aU K "_law_table" (top 27))
  (d28:aU K "_law_due" (top 28))
  (d29:aU K "_law_number" (top 29))
  (d30:aU K "_law_rows" (top 30))
  (d31:aU K "_law_right" (top 31))
  (d32:aU K "law" (top 32)) :
  ∃fd:FuncData,(∀(s:Shared) (v:Value),BindsTo s fd ⟨[v],[]⟩ [("_law_script",v)])/\∀base:Heap,K.In base->base.Ns mainGlobals mg->aH l.prog w K mg base CX0 6 fa fd ["_law_script"] (eY K):=by
 obtain⟨f,oc,od,kV,doc,pm,an,cd,ct,sl,a,lk,c,kk⟩:=d32
 have e:=hfa.symm.trans (PySem.W.mg_of X G a)
 cases e
 refine⟨PySem.W.fnOf "law" "law" (cx (top 32)) (b8 (top 32)) (aF (top 32)) .none kV doc pm an cd ct,fun s v=>.of_eq rfl,fun base KB _=>?_⟩
 have n6:=aY (P:=l.prog) (w:=w) (base:=base) d6 X G (ps:=["thing"]) (fun _ _ _ _ _ _ us hl=>match us,hl with | [_],_=>rfl) fun f fd F=>lE F B
 have n7:=aY (P:=l.prog) (w:=w) (base:=base) d7 X G (ps:=["names"]) (fun _ _ _ _ _ _ us hl=>match us,hl with | [_],_=>rfl) fun f fd F=>kW F B
 have n8:=aY (P:=l.prog) (w:=w) (base:=base) d8 X G (ps:=["thing"]) (fun _ _ _ _ _ _ us hl=>match us,hl with | [_],_=>rfl) fun f fd F=>k8 F B n6 n7
 have n9:=aY (P:=l.prog) (w:=w) (base:=base) d9 X G (ps:=["thing","names"]) (fun _ _ _ _ _ _ us hl=>match us,hl with | [_,_],_=>rfl) fun f fd F=>lj F B
 have n10:=aY (P:=l.prog) (w:=w) (base:=base) d10 X G (ps:=["thing","places"]) (fun _ _ _ _ _ _ us hl=>match us,hl with | [_,_],_=>rfl) fun f fd F=>kQ F B n6 n9
 have n11:=aY (P:=l.prog) (w:=w) (base:=base) d11 X G (ps:=["thing"]) (fun _ _ _ _ _ _ us hl=>match us,hl with | [_],_=>rfl) fun f fd F=>mf F B n8 n10 n7
 have n12:=aY (P:=l.prog) (w:=w) (base:=base) d12 X G (ps:=["thing"]) (fun _ _ _ _ _ _ us hl=>match us,hl with | [_],_=>rfl) fun f fd F=>ll F n11
 have n13:=aY (P:=l.prog) (w:=w) (base:=base) d13 X G (ps:=["web","thing"]) (fun _ _ _ _ _ _ us hl=>match us,hl with | [_,_],_=>rfl) fun f fd F=>kP F n9
 have n15:=aY (P:=l.prog) (w:=w) (base:=base) d15 X G (ps:=["places","root","rows"]) (fun _ _ _ _ _ _ us hl=>match us,hl with | [_,_,_],_=>rfl) fun f fd F=>mT F B
 have n16:=aY (P:=l.prog) (w:=w) (base:=base) d16 X G (ps:=["web","root"]) (fun _ _ _ _ _ _ us hl=>match us,hl with | [_,_],_=>rfl) fun f fd F=>lQ F n12 n13 n15
 have n17:=aY (P:=l.prog) (w:=w) (base:=base) d17 X G (ps:=["left","last"]) (fun _ _ _ _ _ _ us hl=>match us,hl with | [_,_],_=>rfl) fun f fd F=>lC F B
 have n18:=aY (P:=l.prog) (w:=w) (base:=base) d18 X G (ps:=["rows"]) (fun _ _ _ _ _ _ us hl=>match us,hl with | [_],_=>rfl) fun f fd F=>pQ F B n17
 have n20:=aY (P:=l.prog) (w:=w) (base:=base) d20 X G (ps:=["_law_script","_law_k"]) (fun _ _ _ _ _ _ us hl=>match us,hl with | [_,_],_=>rfl) fun f fd F=>oZ F B
 have n21:=aY (P:=l.prog) (w:=w) (base:=base) d21 X G (ps:=["_law_pot_here","_law_many"]) (fun _ _ _ _ _ _ us hl=>match us,hl with | [_,_],_=>rfl) fun f fd F=>nD F B
 have n22:=aY (P:=l.prog) (w:=w) (base:=base) d22 X G (ps:=["_law_pot_here","_law_k"]) (fun _ _ _ _ _ _ us hl=>match us,hl with | [_,_],_=>rfl) fun f fd F=>nZ F B n21
 have n23:=aY (P:=l.prog) (w:=w) (base:=base) d23 X G (ps:=["_law_pot_here","_law_places","_law_root"]) (fun _ _ _ _ _ _ us hl=>match us,hl with | [_,_,_],_=>rfl) fun f fd F=>nH F B n21
 have n24:=aY (P:=l.prog) (w:=w) (base:=base) d24 X G (ps:=["_law_pot_here","_law_names"]) (fun _ _ _ _ _ _ us hl=>match us,hl with | [_,_],_=>rfl) fun f fd F=>nV F B n21
 have n25:=aY (P:=l.prog) (w:=w) (base:=base) d25 X G (ps:=["_law_pot_here","_law_names"]) (fun _ _ _ _ _ _ us hl=>match us,hl with | [_,_],_=>rfl) fun f fd F=>nA F B n21 n24
 have n26:=aY (P:=l.prog) (w:=w) (base:=base) d26 X G (ps:=["_law_pot_here","_law_most_places","_law_most_trees","_law_most_more"]) (fun _ _ _ _ _ _ us hl=>match us,hl with | [_,_,_,_],_=>rfl) fun f fd F=>pI F B n21 n22 n25 n23
 have n27:=aY (P:=l.prog) (w:=w) (base:=base) d27 X G (ps:=["_law_web_here","_law_root"]) (fun _ _ _ _ _ _ us hl=>match us,hl with | [_,_],_=>rfl) fun f fd F=>oE F B
 have n28:=aY (P:=l.prog) (w:=w) (base:=base) d28 X G (ps:=["_law_rows_here"]) (fun _ _ _ _ _ _ us hl=>match us,hl with | [_],_=>rfl) fun f fd F=>p6 F B
 have n29:=aY (P:=l.prog) (w:=w) (base:=base) d29 X G (ps:=["_law_pot_here"]) (fun _ _ _ _ _ _ us hl=>match us,hl with | [_],_=>rfl) fun f fd F=>mI F n21
 have n30:=aY (P:=l.prog) (w:=w) (base:=base) d30 X G (ps:=["_law_pot_here"]) (fun _ _ _ _ _ _ us hl=>match us,hl with | [_],_=>rfl) fun f fd F=>oJ F B n21 n29
 have n31:=aY (P:=l.prog) (w:=w) (base:=base) d31 X G (ps:=["_law_rows_here"]) (fun _ _ _ _ _ _ us hl=>match us,hl with | [_],_=>rfl) fun f fd F=>m9 F B n18 n28
 exact qd (jF (st:=top 32) lk c kk) B n18 n20 n26 n27 n16 n30 n31
theorem si {K:PySem.W.Frag}{h:Heap}{mg:Str->Option Value} (X:K.In h) (G:h.Ns mainGlobals mg) {t_lng:Tok}
  (z_len:PySem.W.nsIn K mainGlobals "len"=some none)
  (z_isinstance:PySem.W.nsIn K mainGlobals "isinstance"=some none)
  (z_all:PySem.W.nsIn K mainGlobals "all"=some none)
  (z_range:PySem.W.nsIn K mainGlobals "range"=some none)
  (z_sorted:PySem.W.nsIn K mainGlobals "sorted"=some none)
  (z_repr:PySem.W.nsIn K mainGlobals "repr"=some none)
  (z_max:PySem.W.nsIn K mainGlobals "max"=some none)
  (z_min:PySem.W.nsIn K mainGlobals "min"=some none)
  (z_str:PySem.W.nsIn K mainGlobals "str"=some none)
  (z_tuple:PySem.W.nsIn K mainGlobals "tuple"=some none)
  (z_list:PySem.W.nsIn K mainGlobals "list"=some none)
  (z_int:PySem.W.nsIn K mainGlobals "int"=some none)
  (z_bool:PySem.W.nsIn K mainGlobals "bool"=some none)
  (z_zip:PySem.W.nsIn K mainGlobals "zip"=some none)
  (z_divmod:PySem.W.nsIn K mainGlobals "divmod"=some none)
  (z_abs:PySem.W.nsIn K mainGlobals "abs"=some none)
  (z_set:PySem.W.nsIn K mainGlobals "set"=some none)
  (z_enumerate:PySem.W.nsIn K mainGlobals "enumerate"=some none)
  (z_dict:PySem.W.nsIn K mainGlobals "dict"=some none)
  (z_lng:PySem.W.nsIn K mainGlobals "LONGEST_NAME"=some (some (.int 8 t_lng)))
  : Bl mg :=
 ⟨PySem.W.mg_none_of X G z_len,PySem.W.mg_none_of X G z_isinstance,PySem.W.mg_none_of X G z_all,PySem.W.mg_none_of X G z_range,PySem.W.mg_none_of X G z_sorted,PySem.W.mg_none_of X G z_repr,PySem.W.mg_none_of X G z_max,PySem.W.mg_none_of X G z_min,PySem.W.mg_none_of X G z_str,PySem.W.mg_none_of X G z_tuple,PySem.W.mg_none_of X G z_list,PySem.W.mg_none_of X G z_int,PySem.W.mg_none_of X G z_bool,PySem.W.mg_none_of X G z_zip,PySem.W.mg_none_of X G z_divmod,PySem.W.mg_none_of X G z_abs,PySem.W.mg_none_of X G z_set,PySem.W.mg_none_of X G z_enumerate,PySem.W.mg_none_of X G z_dict,⟨t_lng,PySem.W.mg_of X G z_lng⟩⟩
theorem walk {l:PySem.W.OpenLaw}{q:Program}{loose:List Str}{XP:(Str->Option Value)->Heap->Prop}{YP:World->Heap->Prop}{d:DefRec}{K:Params->PySem.W.Frag} (hn:l.most=some 63) (hdf:d.params.defaults=[])
  (hY:∀(w:World) (h:Heap),YP w h->(K w.params).In h)
  (F:∀(w:World) (mg:Str->Option Value) (fa:Addr) (h:Heap),(K w.params).In h->h.Ns mainGlobals mg->mg d.name=some (.ref fa) ->
   ∃fd:FuncData,(∀(s:Shared) (u:Value),BindsTo s fd ⟨[u],[]⟩ [("_law_script",u)])/\∀base:Heap,(K w.params).In base->base.Ns mainGlobals mg->aH l.prog w (K w.params) mg base CX0 6 fa fd ["_law_script"] (eY (K w.params))) :
  PySem.W.WalkO q loose XP YP l.row.toRowW d [] (fun f vs=>PySem.call f vs) :=
 L2.rY (n:=63) (k:=6) (x:="_law_script") (CX:=fun _=>CX0) (sp:=fun w=>eY (K w.params)) hn (by decide) hdf ⟨rfl,by decide,by decide,rfl⟩ hY F (fun _ _ a ns hl _ hS=>⟨a,ns,rfl,hS,hl,fun _=>rfl⟩) fun _ _ _ _ _ z=>z
end K81
theorem PySem.W.Fast.tw6273483228296739436 : True := trivial
theorem PySem.W.Fast.tw10350200295030969607 : True := trivial
theorem PySem.W.Fast.tw14436228917916973329 : True := trivial
theorem PySem.W.Fast.tw13375521534626556590 : True := trivial
theorem PySem.W.Fast.tw9476409346636501712 : True := trivial
theorem PySem.W.Fast.tw11756169408480361964 : True := trivial
theorem PySem.W.Fast.tw16095012466617795049 : True := trivial
theorem PySem.W.Fast.tw8142700273439202534 : True := trivial
theorem PySem.W.Fast.tw9933965821545623279 : True := trivial
theorem PySem.W.Fast.tw2832156879143875203 : True := trivial
theorem PySem.W.Fast.tw14777603379681012685 : True := trivial
theorem PySem.W.Fast.tw2835022142776929067 : True := trivial
theorem PySem.W.Fast.tw11928748849774545634 : True := trivial
theorem PySem.W.Fast.tw2990359383059322454 : True := trivial
theorem PySem.W.Fast.tw3217869475650050404 : True := trivial
theorem PySem.W.Fast.tw2716564990393739639 : True := trivial
theorem PySem.W.Fast.tw9877092213930845428 : True := trivial
theorem PySem.W.Fast.tw16480419680467282574 : True := trivial
theorem PySem.W.Fast.tw3151693931586545651 : True := trivial
theorem PySem.W.Fast.tw16613033052277393406 : True := trivial
theorem PySem.W.Fast.tw10838070780504946720 : True := trivial
theorem PySem.W.Fast.tw3701961143019176908 : True := trivial
theorem PySem.W.Fast.tw10314832003360186148 : True := trivial
theorem PySem.W.Fast.tw2029812993146481224 : True := trivial
theorem PySem.W.Fast.tw7310977430946938227 : True := trivial
theorem PySem.W.Fast.tw9328433362312436717 : True := trivial
theorem PySem.W.Fast.tw17680077607643744183 : True := trivial
theorem PySem.W.Fast.tw16375083715942465446 : True := trivial
theorem PySem.W.Fast.tw12611108788165260492 : True := trivial
theorem PySem.W.Fast.tw6921159224091496429 : True := trivial
theorem PySem.W.Fast.tw4042435598067439026 : True := trivial
theorem PySem.W.Fast.tw1324249736336776089 : True := trivial
theorem PySem.W.Fast.tw14226328862447697922 : True := trivial
theorem PySem.W.Fast.tw13882197787646526036 : True := trivial
theorem PySem.W.Fast.tw4908362075011389092 : True := trivial
theorem PySem.W.Fast.tw8860947292729581255 : True := trivial
theorem PySem.W.Fast.tw8499077853766785138 : True := trivial
theorem PySem.W.Fast.tw3180467989218526509 : True := trivial
theorem PySem.W.Fast.tw551837718677783849 : True := trivial
theorem PySem.W.Fast.tw9116243107102319326 : True := trivial
theorem PySem.W.Fast.tw12278645631355115448 : True := trivial
theorem PySem.W.Fast.tw10870329950843547184 : True := trivial
theorem PySem.W.Fast.tw8282085148062042757 : True := trivial
theorem PySem.W.Fast.tw4511238538173528827 : True := trivial
theorem PySem.W.Fast.tw13023275072186495201 : True := trivial
theorem PySem.W.Fast.tw4439478608726550938 : True := trivial
theorem PySem.W.Fast.tw13333224811231404269 : True := trivial
theorem PySem.W.Fast.tw137397903648361884 : True := trivial
theorem PySem.W.Fast.tw12726248934660978587 : True := trivial
theorem PySem.W.Fast.tw11917072765594232031 : True := trivial
theorem PySem.W.Fast.tw4515428694498765325 : True := trivial
theorem PySem.W.Fast.tw13822434291234587390 : True := trivial
theorem PySem.W.Fast.tw2709671539728218694 : True := trivial
theorem PySem.W.Fast.tw5338235099329094983 : True := trivial
theorem PySem.W.Fast.tw14586068594630949338 : True := trivial
theorem PySem.W.Fast.tw14062541427967268680 : True := trivial
theorem PySem.W.Fast.tw1894308086100807618 : True := trivial
theorem PySem.W.Fast.tw16774281363512026620 : True := trivial
theorem PySem.W.Fast.tw680615977990372859 : True := trivial
theorem PySem.W.Fast.tw16396949065926047782 : True := trivial
theorem PySem.W.Fast.tw17757101445591423769 : True := trivial
theorem PySem.W.Fast.tw304038006447173339 : True := trivial
theorem PySem.W.Fast.tw13874579387401973756 : True := trivial
theorem PySem.W.Fast.tw14644919003878118305 : True := trivial
theorem PySem.W.Fast.tw6705574073666408939 : True := trivial
theorem PySem.W.Fast.tw10189298195409469976 : True := trivial
theorem PySem.W.Fast.tw3062927506644486105 : True := trivial
theorem PySem.W.Fast.tw11107514507329710873 : True := trivial
theorem PySem.W.Fast.tw16037378154682487448 : True := trivial
theorem PySem.W.Fast.tw8724068558473866116 : True := trivial
theorem PySem.W.Fast.tw18005003193378729354 : True := trivial
theorem PySem.W.Fast.tw2360036755746606465 : True := trivial
theorem PySem.W.Fast.tw14577107287671501552 : True := trivial
theorem PySem.W.Fast.tw15140928635152024519 : True := trivial
theorem PySem.W.Fast.tw4416413771335803952 : True := trivial
theorem PySem.W.Fast.tw10023313503495000565 : True := trivial
theorem PySem.W.Fast.tw7062793452482239153 : True := trivial
theorem PySem.W.Fast.tw13542490744950199645 : True := trivial
theorem PySem.W.Fast.tw12720863036575561495 : True := trivial
theorem PySem.W.Fast.tw13215400344019922093 : True := trivial
theorem PySem.W.Fast.tw17586481879416494084 : True := trivial
theorem PySem.W.Fast.tw10779494274522780793 : True := trivial
theorem PySem.W.Fast.tw13454487606203099904 : True := trivial
theorem PySem.W.Fast.tw17073996512260627297 : True := trivial
theorem PySem.W.Fast.tw6067607016869448060 : True := trivial
theorem PySem.W.Fast.tw17677814857566662202 : True := trivial
theorem PySem.W.Fast.tw8489570534322502591 : True := trivial
theorem PySem.W.Fast.tw13605628642808251944 : True := trivial
theorem PySem.W.Fast.tw3474293253240111812 : True := trivial
theorem PySem.W.Fast.tw28797667031157335 : True := trivial
theorem PySem.W.Fast.tw16051521556223155935 : True := trivial
theorem PySem.W.Fast.tw5662797168518253136 : True := trivial
theorem PySem.W.Fast.tw4810821268760303003 : True := trivial
theorem PySem.W.Fast.tw8755661693107265391 : True := trivial
theorem PySem.W.Fast.tw16441095130138319301 : True := trivial
theorem PySem.W.Fast.tw13546986978442420944 : True := trivial
theorem PySem.W.Fast.tw11782344326581546489 : True := trivial
theorem PySem.W.Fast.tw14277717564429189053 : True := trivial
theorem PySem.W.Fast.tw6504811270497890503 : True := trivial
theorem PySem.W.Fast.tw10776820411903167006 : True := trivial
theorem PySem.W.Fast.tw4517136593659652299 : True := trivial
theorem PySem.W.Fast.tw7657517226581785929 : True := trivial
theorem PySem.W.Fast.tw4802822827687057198 : True := trivial
theorem PySem.W.Fast.tw8133860251117891924 : True := trivial
theorem PySem.W.Fast.tw9368279431292273961 : True := trivial
theorem PySem.W.Fast.tw7384973660850301184 : True := trivial
theorem PySem.W.Fast.tw11113866083056982035 : True := trivial
theorem PySem.W.Fast.tw16360159035793282067 : True := trivial
theorem PySem.W.Fast.tw9414577482436794531 : True := trivial
theorem PySem.W.Fast.tw11656162423601434089 : True := trivial
theorem PySem.W.Fast.tw3769779614503562407 : True := trivial
theorem PySem.W.Fast.tw3340815629110660021 : True := trivial
open PySem PySem.W PyProof.Rows
set_option maxRecDepth 100000 in
set_option maxHeartbeats 0 in
theorem PySem.Challenge.cw_rootshares_k81_tables_and_determinants_holds : PySem.Challenge.rw_rootshares_k81_tables_and_determinants.Holds := by
 w_on;o_law;k_head;(case hw=>w_witness2)
 k_fill
 refine K81.walk (l:=PySem.Challenge.rw_rootshares_k81_tables_and_determinants) rfl rfl (fun w h Y=>PySem.W.kIn_of Y) ?F
 case F =>
  intro w mg fa h KX G hmg
  have B:K81.Bl mg:=by
   refine' K81.si KX G ?len ?isinstance ?all ?range ?sorted ?repr ?max ?min ?str ?tuple ?list ?int ?bool ?zip ?divmod ?abs ?set ?enumerate ?dict ?lng
   (case len=>k_is)
   (case isinstance=>k_is)
   (case all=>k_is)
   (case range=>k_is)
   (case sorted=>k_is)
   (case repr=>k_is)
   (case max=>k_is)
   (case min=>k_is)
   (case str=>k_is)
   (case tuple=>k_is)
   (case list=>k_is)
   (case int=>k_is)
   (case bool=>k_is)
   (case zip=>k_is)
   (case divmod=>k_is)
   (case abs=>k_is)
   (case set=>k_is)
   (case enumerate=>k_is)
   (case dict=>k_is)
   (case lng=>k_is)
  refine' K81.r8 KX G hmg B ?d6 ?d7 ?d8 ?d9 ?d10 ?d11 ?d12 ?d13 ?d15 ?d16 ?d17 ?d18 ?d20 ?d21 ?d22 ?d23 ?d24 ?d25 ?d26 ?d27 ?d28 ?d29 ?d30 ?d31 ?d32
  (case d6=>(refine' K81.rZ ?a ?l ?c ?k;(case a=>k_is);(case l=>k_is);(case c=>k_is);(case k=>k_is)))
  (case d7=>(refine' K81.rZ ?a ?l ?c ?k;(case a=>k_is);(case l=>k_is);(case c=>k_is);(case k=>k_is)))
  (case d8=>(refine' K81.rZ ?a ?l ?c ?k;(case a=>k_is);(case l=>k_is);(case c=>k_is);(case k=>k_is)))
  (case d9=>(refine' K81.rZ ?a ?l ?c ?k;(case a=>k_is);(case l=>k_is);(case c=>k_is);(case k=>k_is)))
  (case d10=>(refine' K81.rZ ?a ?l ?c ?k;(case a=>k_is);(case l=>k_is);(case c=>k_is);(case k=>k_is)))
  (case d11=>(refine' K81.rZ ?a ?l ?c ?k;(case a=>k_is);(case l=>k_is);(case c=>k_is);(case k=>k_is)))
  (case d12=>(refine' K81.rZ ?a ?l ?c ?k;(case a=>k_is);(case l=>k_is);(case c=>k_is);(case k=>k_is)))
  (case d13=>(refine' K81.rZ ?a ?l ?c ?k;(case a=>k_is);(case l=>k_is);(case c=>k_is);(case k=>k_is)))
  (case d15=>(refine' K81.rZ ?a ?l ?c ?k;(case a=>k_is);(case l=>k_is);(case c=>k_is);(case k=>k_is)))
  (case d16=>(refine' K81.rZ ?a ?l ?c ?k;(case a=>k_is);(case l=>k_is);(case c=>k_is);(case k=>k_is)))
  (case d17=>(refine' K81.rZ ?a ?l ?c ?k;(case a=>k_is);(case l=>k_is);(case c=>k_is);(case k=>k_is)))
  (case d18=>(refine' K81.rZ ?a ?l ?c ?k;(case a=>k_is);(case l=>k_is);(case c=>k_is);(case k=>k_is)))
  (case d20=>(refine' K81.rZ ?a ?l ?c ?k;(case a=>k_is);(case l=>k_is);(case c=>k_is);(case k=>k_is)))
  (case d21=>(refine' K81.rZ ?a ?l ?c ?k;(case a=>k_is);(case l=>k_is);(case c=>k_is);(case k=>k_is)))
  (case d22=>(refine' K81.rZ ?a ?l ?c ?k;(case a=>k_is);(case l=>k_is);(case c=>k_is);(case k=>k_is)))
  (case d23=>(refine' K81.rZ ?a ?l ?c ?k;(case a=>k_is);(case l=>k_is);(case c=>k_is);(case k=>k_is)))
  (case d24=>(refine' K81.rZ ?a ?l ?c ?k;(case a=>k_is);(case l=>k_is);(case c=>k_is);(case k=>k_is)))
  (case d25=>(refine' K81.rZ ?a ?l ?c ?k;(case a=>k_is);(case l=>k_is);(case c=>k_is);(case k=>k_is)))
  (case d26=>(refine' K81.rZ ?a ?l ?c ?k;(case a=>k_is);(case l=>k_is);(case c=>k_is);(case k=>k_is)))
  (case d27=>(refine' K81.rZ ?a ?l ?c ?k;(case a=>k_is);(case l=>k_is);(case c=>k_is);(case k=>k_is)))
  (case d28=>(refine' K81.rZ ?a ?l ?c ?k;(case a=>k_is);(case l=>k_is);(case c=>k_is);(case k=>k_is)))
  (case d29=>(refine' K81.rZ ?a ?l ?c ?k;(case a=>k_is);(case l=>k_is);(case c=>k_is);(case k=>k_is)))
  (case d30=>(refine' K81.rZ ?a ?l ?c ?k;(case a=>k_is);(case l=>k_is);(case c=>k_is);(case k=>k_is)))
  (case d31=>(refine' K81.rZ ?a ?l ?c ?k;(case a=>k_is);(case l=>k_is);(case c=>k_is);(case k=>k_is)))
  (case d32=>(refine' K81.rZ ?a ?l ?c ?k;(case a=>k_is);(case l=>k_is);(case c=>k_is);(case k=>k_is)))
